package meta_test

import (
	"bytes"
	"encoding/hex"
	"hash/crc32"
	"math"
	"slices"
	"strings"
	"testing"

	"jalousie/api"
	"jalousie/cells"
	"jalousie/disk"
	"jalousie/meta"
)

// The signatures that the chapter lists, and the fields: others don't compile.
var (
	_ func(meta.Meta) bool                        = meta.Check
	_ func(uint64) int                            = meta.Slot
	_ func(meta.Meta) ([]byte, api.Errno)         = meta.Put
	_ func([]byte) (meta.Meta, api.Errno)         = meta.Get
	_ func([]byte, []byte, int) (meta.Meta, bool) = meta.Newest
	_ struct {
		Label      int
		Txn        uint64
		Root, List int
		High       int
	} = meta.Meta{}
)

// greatest is the greatest number of a version.
const greatest = math.MaxUint64

// of is a meta.
func of(label int, txn uint64, root, list, high int) meta.Meta {
	return meta.Meta{Label: label, Txn: txn, Root: root, List: list, High: high}
}

// dice produces numbers below one, which look like chance and are the same for one seed.
func dice(seed uint64) func(below int) int {
	return func(below int) int {
		seed = seed*6364136223846793005 + 1442695040888963407
		return int(seed >> 33 % uint64(below))
	}
}

// fromHex is bytes that are written out.
func fromHex(t *testing.T, s string) []byte {
	t.Helper()
	b, err := hex.DecodeString(strings.ReplaceAll(s, " ", ""))
	if err != nil {
		t.Fatal(err)
	}
	return b
}

// summed is the page of 124 bytes, behind their sum.
func summed(body []byte) []byte {
	sum := crc32.ChecksumIEEE(body)
	return append([]byte{byte(sum >> 24), byte(sum >> 16), byte(sum >> 8), byte(sum)}, body...)
}

// resummed is a page with the right sum, whatever is behind it.
func resummed(page []byte) []byte { return summed(page[4:]) }

// missummed is a page with a wrong sum.
func missummed(page []byte) []byte {
	return append([]byte{page[0] + 1}, page[1:]...)
}

// page is the page of a kind and cells that have room.
func page(kind byte, l ...string) []byte {
	slots, tail := []byte{}, ""
	for _, c := range l {
		tail = c + tail
		slots = append(slots, byte(128-len(tail)))
	}
	zeros := make([]byte, 122-len(slots)-len(tail))
	return summed(slices.Concat([]byte{kind, byte(len(l))}, slots, zeros, []byte(tail)))
}

// The metas, done as the chapter says it.

// plainCheck tells whether a meta may be.
func plainCheck(m meta.Meta) bool {
	if m.Label < 0 || m.Label > 63 || m.Txn == 0 || m.High < 2 || m.High > 1000 {
		return false
	}
	for _, p := range []int{m.Root, m.List} {
		if p != 0 && (p < 2 || p > m.High-1) {
			return false
		}
	}
	return m.Root != m.List || m.Root == 0 && m.List == 0
}

// two is the two bytes of a number that goes into them.
func two(x int) string { return string([]byte{byte(x / 256), byte(x % 256)}) }

// plainCell is the cell of a meta whose numbers go into their bytes, may it be or not.
func plainCell(m meta.Meta) string {
	txn := ""
	for x := m.Txn; len(txn) < 8; x /= 256 {
		txn = string([]byte{byte(x % 256)}) + txn
	}
	return "meta" + string([]byte{byte(m.Label)}) + txn + two(m.Root) + two(m.List) + two(m.High)
}

// plainPut is the page of a meta.
func plainPut(m meta.Meta) []byte { return page(5, plainCell(m)) }

// plainGet is what Get tells of 128 bytes with a right sum.
func plainGet(b []byte) (meta.Meta, bool) {
	at := func(i int) int { return int(b[i]) }
	m := of(at(113), 0, at(122)*256+at(123), at(124)*256+at(125), at(126)*256+at(127))
	for _, c := range b[114:122] {
		m.Txn = m.Txn*256 + uint64(c)
	}
	if !plainCheck(m) || !bytes.Equal(plainPut(m), b) {
		return meta.Meta{}, false
	}
	return m, true
}

// plainNewest is the newest one of two metas, if they are of the label and in their places; nil is no meta.
func plainNewest(a, b *meta.Meta, label int) (meta.Meta, bool) {
	if a != nil && (a.Label != label || a.Txn%2 != 0) {
		a = nil
	}
	if b != nil && (b.Label != label || b.Txn%2 != 1) {
		b = nil
	}
	switch {
	case a == nil && b == nil:
		return meta.Meta{}, false
	case b == nil || a != nil && a.Txn > b.Txn:
		return *a, true
	default:
		return *b, true
	}
}

// Metas that may be, and such that may not be.

// txns is numbers of versions.
func txns() []uint64 {
	out := []uint64{greatest, greatest - 1, greatest - 255, greatest - 256}
	for bit := range 64 {
		out = append(out, 1<<bit, 1<<bit|1)
	}
	return out
}

// valid is metas that may be: each edge beside others in any order.
func valid() []meta.Meta {
	out := []meta.Meta{of(0, 1, 0, 0, 2), of(63, greatest, 0, 0, 1000), of(63, greatest, 998, 999, 1000), of(0, 1, 999, 998, 1000), of(7, 258, 3, 0, 4), of(7, 259, 0, 3, 4), of(7, 260, 2, 3, 4), of(7, 261, 3, 2, 4), of(7, 262, 2, 0, 3), of(7, 263, 0, 2, 3)}
	roll := dice(1)
	for _, txn := range txns() {
		out = append(out, some(roll, txn))
	}
	for label := range 64 {
		out = append(out, of(label, uint64(1+roll(5)), 0, 0, 2+roll(999)))
	}
	for high := 2; high <= 1000; high++ {
		out = append(out, of(roll(64), uint64(1+roll(1000)), 0, 0, high))
		if high > 2 {
			out = append(out, of(roll(64), 1, high-1, 0, high), of(roll(64), 2, 0, high-1, high))
		}
		if high > 3 {
			out = append(out, of(roll(64), 1, 2, high-1, high), of(roll(64), 2, high-1, 2, high))
		}
	}
	return out
}

// some is a meta that may be, with that number.
func some(roll func(int) int, txn uint64) meta.Meta {
	for {
		m := of(roll(64), txn, pick(roll), pick(roll), 2+roll(999))
		if plainCheck(m) {
			return m
		}
	}
}

// pick is a page, or none.
func pick(roll func(int) int) int { return []int{0, 2 + roll(998), 2 + roll(30)}[roll(3)] }

// wrongNumbers is numbers that are no label, no page and no High; many would be one if their low bytes were taken.
func wrongNumbers() []int {
	return []int{
		-1, -2, -3, -255, -256, -1000, -65535, -65536, -65533, -1 << 32, math.MinInt, math.MinInt + 3, math.MinInt + 63,
		1001, 1002, 1023, 1024, 65535, 65536, 65537, 65538, 65539, 65600, 1 << 16 * 3, 1 << 31, 1 << 32, 1<<32 + 2, 1<<32 + 3, math.MaxInt, math.MaxInt - 1,
	}
}

// invalid is metas that may not be.
func invalid() []meta.Meta {
	out := []meta.Meta{{}, of(0, 0, 0, 0, 2), of(0, 0, 2, 3, 4), of(63, 0, 0, 0, 1000), of(1, 0, 0, 0, 0), of(-1, 1, 0, 0, 2), of(64, 1, 0, 0, 2), of(-1, greatest, 2, 3, 4), of(64, greatest, 2, 3, 1000), of(65, 1, 0, 0, 2), of(127, 1, 0, 0, 2), of(128, 1, 0, 0, 2), of(255, 1, 0, 0, 2), of(256, 1, 0, 0, 2), of(257, 1, 2, 3, 4), of(319, 1, 2, 3, 4)}
	for _, high := range []int{0, 1, 1001} {
		out = append(out, of(0, 1, 0, 0, high), of(0, 1, 2, 0, high), of(0, 1, 0, 2, high), of(0, 1, 2, 3, high), of(0, 1, high-1, 0, high))
	}
	for _, high := range []int{2, 3, 4, 5, 256, 257, 999, 1000} {
		for _, p := range []int{1, high, high + 1, high + 2, high + 256} {
			out = append(out, of(0, 1, p, 0, high), of(0, 1, 0, p, high), of(0, 1, p, 2, high), of(0, 1, 2, p, high), of(0, 1, p, p, high))
		}
		for p := 2; p < high; p++ {
			out = append(out, of(0, 1, p, p, high))
		}
	}
	for _, x := range wrongNumbers() {
		out = append(out, of(x, 1, 0, 0, 2), of(x, 1, 2, 3, 4), of(0, 1, x, 0, 1000), of(0, 1, 0, x, 1000), of(0, 1, x, 2, 1000), of(0, 1, 2, x, 1000), of(0, 1, x, x, 1000), of(0, 1, 0, 0, x), of(0, 1, 2, 3, x), of(0, 1, x-1, 0, x), of(x, 0, x, x, x))
	}
	return out
}

// What the tests hold.

// puts is the page of a meta that may be.
func puts(t *testing.T, m meta.Meta) []byte {
	t.Helper()
	b, e := meta.Put(m)
	if want := plainPut(m); e != api.OK || !bytes.Equal(b, want) {
		t.Errorf("Put(%+v) = %x, %d, want %x", m, b, e, want)
	}
	return b
}

// notPut holds that Put has ErrArg, and nothing beside it.
func notPut(t *testing.T, m meta.Meta) {
	t.Helper()
	if b, e := meta.Put(m); e != api.ErrArg || len(b) != 0 {
		t.Errorf("Put(%+v) = %x, %d, want ErrArg", m, b, e)
	}
}

// gets holds that Get tells a meta.
func gets(t *testing.T, b []byte, want meta.Meta) {
	t.Helper()
	if m, e := meta.Get(b); e != api.OK || m != want {
		t.Errorf("Get(%x) = %+v, %d, want %+v", b, m, e, want)
	}
}

// refused holds that Get has an error, and nothing beside it.
func refused(t *testing.T, b []byte, want api.Errno) {
	t.Helper()
	if m, e := meta.Get(b); e != want || m != (meta.Meta{}) {
		t.Errorf("Get(%x) = %+v, %d, want error %d", b, m, e, want)
	}
}

// judged holds that Get tells what the chapter says of 128 bytes with a right sum.
func judged(t *testing.T, b []byte) bool {
	t.Helper()
	m, ok := plainGet(b)
	if ok {
		gets(t, b, m)
	} else {
		refused(t, b, api.ErrForm)
	}
	return ok
}

// newest holds that Newest tells a meta.
func newest(t *testing.T, a, b []byte, label int, want meta.Meta) {
	t.Helper()
	if m, ok := meta.Newest(a, b, label); !ok || m != want {
		t.Errorf("Newest(%x, %x, %d) = %+v, %v, want %+v", a, b, label, m, ok, want)
	}
}

// none holds that Newest tells that there is none.
func none(t *testing.T, a, b []byte, label int) {
	t.Helper()
	if m, ok := meta.Newest(a, b, label); ok || m != (meta.Meta{}) {
		t.Errorf("Newest(%x, %x, %d) = %+v, %v, want none", a, b, label, m, ok)
	}
}

// P10.1

func TestCheckKnown(t *testing.T) {
	for _, x := range []struct {
		m    meta.Meta
		want bool
	}{
		{meta.Meta{}, false},
		{of(0, 1, 0, 0, 2), true},
		{of(-1, 1, 0, 0, 2), false},
		{of(63, 1, 0, 0, 2), true},
		{of(64, 1, 0, 0, 2), false},
		{of(0, 0, 0, 0, 2), false},
		{of(0, greatest, 0, 0, 2), true},
		{of(0, 1<<63, 0, 0, 2), true},
		{of(0, 1<<32, 0, 0, 2), true},
		{of(0, 1, 0, 0, 0), false},
		{of(0, 1, 0, 0, 1), false},
		{of(0, 1, 0, 0, -2), false},
		{of(0, 1, 0, 0, 1000), true},
		{of(0, 1, 0, 0, 1001), false},
		{of(0, 1, 1, 0, 9), false},
		{of(0, 1, 0, 1, 9), false},
		{of(0, 1, 2, 0, 9), true},
		{of(0, 1, 0, 2, 9), true},
		{of(0, 1, 8, 0, 9), true},
		{of(0, 1, 0, 8, 9), true},
		{of(0, 1, 9, 0, 9), false},
		{of(0, 1, 0, 9, 9), false},
		{of(0, 1, 10, 0, 9), false},
		{of(0, 1, 0, 10, 9), false},
		{of(0, 1, -1, 0, 9), false},
		{of(0, 1, 0, -1, 9), false},
		{of(0, 1, -2, 0, 9), false},
		{of(0, 1, 0, -2, 9), false},
		{of(0, 1, 1000, 0, 1000), false},
		{of(0, 1, 0, 1000, 1000), false},
		{of(0, 1, 1001, 0, 1000), false},
		{of(0, 1, 0, 1001, 1000), false},
		{of(0, 1, 1001, 0, 1002), false},
		{of(0, 1, 999, 998, 1000), true},
		{of(0, 1, 2, 3, 9), true},
		{of(0, 1, 3, 2, 9), true},
		{of(0, 1, 2, 2, 9), false},
		{of(0, 1, 8, 8, 9), false},
		{of(0, 1, 1, 1, 9), false},
		{of(0, 1, -1, -1, 9), false},
		{of(0, 1, 2, 0, 2), false},
		{of(0, 1, 0, 2, 2), false},
		{of(0, 1, 2, 0, 3), true},
		{of(0, 1, 0, 2, 3), true},
		{of(0, 1, 2, 3, 3), false},
	} {
		if got := meta.Check(x.m); got != x.want {
			t.Errorf("Check(%+v) = %v", x.m, got)
		}
	}
}

func TestCheck(t *testing.T) {
	for _, m := range valid() {
		if !plainCheck(m) || !meta.Check(m) {
			t.Errorf("Check(%+v) is false", m)
		}
	}
	for _, m := range invalid() {
		if plainCheck(m) || meta.Check(m) {
			t.Errorf("Check(%+v) is true", m)
		}
	}
}

// TestCheckOfEachNumber has each number in each field, the others of which may be.
func TestCheckOfEachNumber(t *testing.T) {
	all := wrongNumbers()
	for x := -70000; x < 70000; x++ {
		all = append(all, x)
	}
	for _, x := range all {
		for _, m := range []meta.Meta{
			of(x, 1, 2, 3, 4), of(0, 1, x, 0, 1000), of(0, 1, x, 7, 500), of(0, 1, 0, x, 1000), of(0, 1, 7, x, 500), of(0, 1, x, x, 1000), of(0, 1, 0, 0, x), of(0, 1, 7, 300, x),
			of(0, uint64(x), 0, 0, 2), of(0, greatest-uint64(x), 0, 0, 2),
		} {
			if got, want := meta.Check(m), plainCheck(m); got != want {
				t.Errorf("Check(%+v) = %v", m, got)
			}
		}
	}
	for _, txn := range txns() {
		if !meta.Check(of(0, txn, 0, 0, 2)) {
			t.Errorf("a version may not be %d", txn)
		}
	}
}

// TestCheckOfEachRootAndList has all of them, up to a High.
func TestCheckOfEachRootAndList(t *testing.T) {
	for high := -1; high < 14; high++ {
		for root := -3; root < 16; root++ {
			for list := -3; list < 16; list++ {
				if m := of(5, 9, root, list, high); meta.Check(m) != plainCheck(m) {
					t.Errorf("Check(%+v) = %v", m, meta.Check(m))
				}
			}
		}
	}
	for root := -2; root < 1003; root++ {
		for list := root - 2; list < root+3; list++ {
			if m := of(5, 9, root, list, 1000); meta.Check(m) != plainCheck(m) {
				t.Errorf("Check(%+v) = %v", m, meta.Check(m))
			}
		}
	}
}

func TestCheckOfWildMetas(t *testing.T) {
	roll, may := dice(2), 0
	for range 50000 {
		m := of([]int{0, 63, roll(64), -1, 64}[min(4, roll(20))], uint64(roll(20)), pick(roll), pick(roll), []int{2, 1000, 1001, 1, 2 + roll(999)}[min(4, roll(20))])
		if roll(8) == 0 {
			m.Root = m.List
		}
		if meta.Check(m) != plainCheck(m) {
			t.Errorf("Check(%+v) = %v", m, meta.Check(m))
		}
		if plainCheck(m) {
			may++
		}
	}
	if may < 2000 || may > 45000 {
		t.Errorf("%d of them may be", may)
	}
}

func TestSlot(t *testing.T) {
	for _, x := range []struct {
		txn  uint64
		want int
	}{
		{0, 0}, {1, 1}, {2, 0}, {3, 1}, {4, 0}, {5, 1}, {255, 1}, {256, 0}, {1 << 31, 0}, {1<<31 + 1, 1}, {1 << 32, 0}, {1<<32 + 1, 1}, {1 << 62, 0}, {1<<63 - 2, 0}, {1<<63 - 1, 1},
		{1 << 63, 0}, {1<<63 + 1, 1}, {greatest - 1, 0}, {greatest, 1},
	} {
		if got := meta.Slot(x.txn); got != x.want {
			t.Errorf("Slot(%d) = %d, want %d", x.txn, got, x.want)
		}
	}
	for i := range uint64(5000) {
		for _, txn := range []uint64{i, i << 30, 1<<63 - 2500 + i, greatest - i} {
			if got := meta.Slot(txn); got != int(txn-txn/2*2) {
				t.Errorf("Slot(%d) = %d", txn, got)
			}
		}
	}
}

// P10.2

// TestPutKnown has cells that are written out.
func TestPutKnown(t *testing.T) {
	for _, x := range []struct {
		m    meta.Meta
		want string
	}{
		{of(0, 1, 0, 0, 2), "6d657461 00 0000000000000001 0000 0000 0002"},
		{of(63, greatest, 998, 999, 1000), "6d657461 3f ffffffffffffffff 03e6 03e7 03e8"},
		{of(63, greatest, 999, 998, 1000), "6d657461 3f ffffffffffffffff 03e7 03e6 03e8"},
		{of(1, 0x0102030405060708, 2, 3, 4), "6d657461 01 0102030405060708 0002 0003 0004"},
		{of(2, 256, 0, 2, 3), "6d657461 02 0000000000000100 0000 0002 0003"},
		{of(2, 257, 2, 0, 3), "6d657461 02 0000000000000101 0002 0000 0003"},
		{of(9, 1<<63, 255, 256, 257), "6d657461 09 8000000000000000 00ff 0100 0101"},
		{of(33, 5, 515, 514, 771), "6d657461 21 0000000000000005 0203 0202 0303"},
	} {
		cell := fromHex(t, x.want)
		want := summed(slices.Concat([]byte{5, 1, 109}, make([]byte, 102), cell))
		if b, e := meta.Put(x.m); e != api.OK || !bytes.Equal(b, want) {
			t.Errorf("Put(%+v) = %x, %d, want %x", x.m, b, e, want)
		}
		if b, e := cells.Pack(5, [][]byte{cell}); e != api.OK || !bytes.Equal(b, want) {
			t.Errorf("the page of %x is %x, %d, want %x", cell, b, e, want)
		}
		gets(t, want, x.m)
	}
}

func TestPut(t *testing.T) {
	for _, m := range valid() {
		puts(t, m)
	}
	roll := dice(3)
	for range 5000 {
		puts(t, some(roll, uint64(roll(1<<30))<<roll(35)+1))
	}
}

func TestPutOfInvalid(t *testing.T) {
	for _, m := range invalid() {
		notPut(t, m)
	}
}

// TestPutOfEachRootAndList has all of them, up to a High.
func TestPutOfEachRootAndList(t *testing.T) {
	for high := range 9 {
		for root := -1; root < 10; root++ {
			for list := -1; list < 10; list++ {
				if m := of(high, 9, root, list, high); plainCheck(m) {
					puts(t, m)
				} else {
					notPut(t, m)
				}
			}
		}
	}
}

func TestGet(t *testing.T) {
	for _, m := range valid() {
		gets(t, plainPut(m), m)
	}
}

func TestGetOfWrongLength(t *testing.T) {
	b := plainPut(of(7, 258, 2, 3, 4))
	refused(t, nil, api.ErrArg)
	refused(t, []byte{}, api.ErrArg)
	for size := range 128 {
		refused(t, b[:size], api.ErrArg)
		refused(t, b[128-size:], api.ErrArg)
	}
	for _, more := range []int{1, 2, 19, 127, 128, 1000} {
		refused(t, append(bytes.Clone(b), make([]byte, more)...), api.ErrArg)
		refused(t, append(make([]byte, more), b...), api.ErrArg)
	}
	refused(t, []byte(plainCell(of(7, 258, 2, 3, 4))), api.ErrArg)
	gets(t, b, of(7, 258, 2, 3, 4))
}

// TestGetOfAWrongSum changes each bit.
func TestGetOfAWrongSum(t *testing.T) {
	for _, m := range []meta.Meta{of(0, 1, 0, 0, 2), of(63, greatest, 998, 999, 1000), of(7, 258, 2, 3, 4)} {
		b := plainPut(m)
		for bit := range 8 * 128 {
			b[bit/8] ^= 1 << (bit % 8)
			refused(t, b, api.ErrSum)
			b[bit/8] ^= 1 << (bit % 8)
		}
		gets(t, b, m)
	}
	refused(t, make([]byte, 128), api.ErrSum)
	refused(t, bytes.Repeat([]byte{255}, 128), api.ErrSum)
}

// TestGetOfNoPage has a right sum ahead of bytes that are no cells.
func TestGetOfNoPage(t *testing.T) {
	b := plainPut(of(7, 258, 2, 3, 4))
	for _, x := range []struct {
		why   string
		at    int
		value byte
	}{
		{"the kind 0", 4, 0}, {"too many cells", 5, 123}, {"more cells than slots", 5, 2}, {"fewer cells than slots", 5, 0}, {"a slot behind the page", 6, 129}, {"a slot in the slots", 6, 6}, {"bytes between slots and cells", 60, 1}, {"a byte ahead of the cell", 108, 'x'},
	} {
		c := bytes.Clone(b)
		c[x.at] = x.value
		if m, e := meta.Get(resummed(c)); e != api.ErrForm || m != (meta.Meta{}) {
			t.Errorf("Get of a page with %s = %+v, %d, want ErrForm", x.why, m, e)
		}
	}
	for _, c := range []byte{0, 1, 5, 255} {
		refused(t, summed(bytes.Repeat([]byte{c}, 124)), api.ErrForm)
	}
}

func TestGetOfEachKind(t *testing.T) {
	for _, m := range []meta.Meta{of(0, 1, 0, 0, 2), of(63, greatest, 998, 999, 1000), of(7, 258, 2, 3, 4)} {
		for kind := range 256 {
			if b := page(byte(kind), plainCell(m)); kind == 5 {
				gets(t, b, m)
			} else {
				refused(t, b, api.ErrForm)
			}
		}
	}
}

// TestGetOfOtherCells has none, or more than one.
func TestGetOfOtherCells(t *testing.T) {
	c := plainCell(of(7, 258, 2, 3, 4))
	lists := [][]string{nil, {c, c}, {c, plainCell(of(7, 259, 2, 3, 4))}, {plainCell(of(7, 257, 2, 3, 4)), c}, {c, "", ""}, {c, c, c}, slices.Repeat([]string{""}, 122), slices.Repeat([]string{c}, 6)}
	for cut := range len(c) + 1 {
		lists = append(lists, []string{c[:cut], c[cut:]}, []string{c[cut:], c[:cut]})
	}
	for _, l := range lists {
		refused(t, page(5, l...), api.ErrForm)
	}
	gets(t, page(5, c), of(7, 258, 2, 3, 4))
}

// TestGetOfCellsOfEachLength has cells that are too short or too long, at either end.
func TestGetOfCellsOfEachLength(t *testing.T) {
	for _, m := range []meta.Meta{of(0, 1, 0, 0, 2), of(63, greatest, 998, 999, 1000), of(7, 258, 2, 3, 4), of(7, 1<<56, 512, 0, 768)} {
		c := plainCell(m)
		for size := range 122 {
			if size == 19 {
				continue
			}
			for _, s := range []string{
				(c + strings.Repeat("\x00", 122))[:size], (c + strings.Repeat("x", 122))[:size], (c + strings.Repeat(c, 6))[:size],
				(strings.Repeat("\x00", 122) + c)[122+19-size:], (strings.Repeat("meta", 31) + c)[124+19-size:],
			} {
				refused(t, page(5, s), api.ErrForm)
			}
		}
		for i := range c { // a byte too few, or one too many, in each place
			refused(t, page(5, c[:i]+c[i+1:]), api.ErrForm)
			refused(t, page(5, c[:i]+"\x00"+c[i:]), api.ErrForm)
			refused(t, page(5, c[:i]+c[i:i+1]+c[i:]), api.ErrForm)
		}
		gets(t, page(5, c), m)
	}
}

func TestGetOfOtherFirstBytes(t *testing.T) {
	c := plainCell(of(7, 258, 2, 3, 4))
	for _, s := range []string{"Meta", "META", "metA", "mete", "atem", "list", "\x00\x00\x00\x00", "\x04met", "meta"[1:] + "a", "    "} {
		refused(t, page(5, s+c[4:]), api.ErrForm)
	}
	for i := range 4 {
		for x := range 256 {
			if s := c[:i] + string([]byte{byte(x)}) + c[i+1:]; s != c {
				refused(t, page(5, s), api.ErrForm)
			}
		}
	}
	refused(t, page(5, c[4:]), api.ErrForm)
}

// TestGetOfInvalid has the cells of metas that may not be, as far as their numbers go into them.
func TestGetOfInvalid(t *testing.T) {
	n := 0
	for _, m := range invalid() {
		if 0 <= m.Label && m.Label < 256 && min(m.Root, m.List, m.High) >= 0 && max(m.Root, m.List, m.High) < 1<<16 {
			n++
			refused(t, plainPut(m), api.ErrForm)
		}
	}
	if n < 100 {
		t.Errorf("there were only %d of them", n)
	}
}

// TestGetOfEachNumber has each number that goes into a field, in each one.
func TestGetOfEachNumber(t *testing.T) {
	for label := range 256 {
		if judged(t, plainPut(of(label, 9, 2, 3, 4))) != (label < 64) {
			t.Errorf("the test's own Get is wrong on label %d", label)
		}
	}
	for x := range 1 << 16 {
		for _, m := range []meta.Meta{of(7, 9, x, 0, 1000), of(7, 9, x, 5, 600), of(7, 9, 0, x, 1000), of(7, 9, 5, x, 600), of(7, 9, 5, 300, x), of(7, 9, 0, 0, x)} {
			judged(t, plainPut(m))
		}
	}
	for _, txn := range append(txns(), 0) {
		judged(t, plainPut(of(7, txn, 2, 3, 4)))
	}
	refused(t, plainPut(of(7, 0, 2, 3, 4)), api.ErrForm)
}

// TestGetOfEachChangedByte has pages of which one byte is another one, behind a right sum.
func TestGetOfEachChangedByte(t *testing.T) {
	for _, m := range []meta.Meta{of(0, 1, 0, 0, 2), of(63, greatest, 998, 999, 1000), of(7, 258, 2, 3, 4), of(31, 1<<63, 0, 700, 900)} {
		b := plainPut(m)
		for i := 4; i < 128; i++ {
			was := b[i]
			for c := range 256 {
				b[i] = byte(c)
				judged(t, resummed(b))
			}
			b[i] = was
		}
	}
}

// TestOrderOfErrors has bytes with several faults.
func TestOrderOfErrors(t *testing.T) {
	m := of(7, 258, 2, 3, 4)
	for _, x := range []struct {
		why  string
		b    []byte
		want api.Errno
	}{
		{"too few bytes, with a wrong sum", missummed(plainPut(m))[:127], api.ErrArg},
		{"too many bytes, with a wrong sum", append(missummed(plainPut(m)), 0), api.ErrArg},
		{"too few bytes, of another kind", page(1, plainCell(m))[:127], api.ErrArg},
		{"too many bytes, of a meta that may not be", append(plainPut(of(64, 258, 2, 3, 4)), 0), api.ErrArg},
		{"a wrong sum, of another kind", missummed(page(1, plainCell(m))), api.ErrSum},
		{"a wrong sum, of two cells", missummed(page(5, plainCell(m), "")), api.ErrSum},
		{"a wrong sum, of a short cell", missummed(page(5, plainCell(m)[:18])), api.ErrSum},
		{"a wrong sum, of a meta that may not be", missummed(plainPut(of(7, 0, 2, 2, 2))), api.ErrSum},
		{"a wrong sum, ahead of no cells", missummed(summed(make([]byte, 124))), api.ErrSum},
		{"another kind, two cells, none a meta", page(4, "x", plainCell(of(64, 0, 1, 1, 1))), api.ErrForm},
	} {
		if got, e := meta.Get(x.b); e != x.want || got != (meta.Meta{}) {
			t.Errorf("Get of %s = %+v, %d, want error %d", x.why, got, e, x.want)
		}
	}
}

// P10.3

func TestExample(t *testing.T) {
	four, five := of(3, 4, 2, 3, 9), of(3, 5, 4, 5, 9)
	newest(t, plainPut(four), plainPut(five), 3, five)
	none(t, nil, plainPut(four), 3)
	newest(t, plainPut(of(3, 2, 0, 0, 2)), plainPut(four), 3, of(3, 2, 0, 0, 2))
}

// TestNewestOfTwo has two good pages in their places.
func TestNewestOfTwo(t *testing.T) {
	for _, x := range []struct{ even, odd uint64 }{
		{2, 1}, {2, 3}, {4, 3}, {4, 5}, {256, 255}, {256, 257}, {254, 255}, {65536, 65535}, {1 << 32, 1<<32 - 1}, {1 << 32, 1<<32 + 1}, {1 << 32, 1}, {1 << 32, 3},
		{1 << 63, 1<<63 - 1}, {1 << 63, 1<<63 + 1}, {1 << 63, 1}, {2, 1<<63 + 1}, {2, greatest}, {greatest - 1, 1}, {greatest - 1, greatest}, {greatest - 1, greatest - 2}, {1 << 40, 1<<40 + 1<<33 + 1}, {1 << 62, 1<<63 + 1},
	} {
		a, b := of(7, x.even, 2, 0, 9), of(7, x.odd, 0, 3, 8)
		want := a
		if x.odd > x.even {
			want = b
		}
		newest(t, plainPut(a), plainPut(b), 7, want)
		none(t, plainPut(b), plainPut(a), 7) // each in the other's place
	}
}

// TestNewestOfTheOthersPlace has a page, or a copy of it, where its version doesn't belong.
func TestNewestOfTheOthersPlace(t *testing.T) {
	for _, txn := range txns() {
		m := of(7, txn, 2, 3, 4)
		b := plainPut(m)
		newest(t, b, b, 7, m)
		if txn%2 == 0 {
			newest(t, b, nil, 7, m)
			none(t, nil, b, 7)
		} else {
			newest(t, nil, b, 7, m)
			none(t, b, nil, 7)
		}
	}
	// The greater one stands where it doesn't belong.
	newest(t, plainPut(of(7, 4, 0, 0, 2)), plainPut(of(7, 6, 0, 0, 2)), 7, of(7, 4, 0, 0, 2))
	newest(t, plainPut(of(7, 5, 0, 0, 2)), plainPut(of(7, 3, 0, 0, 2)), 7, of(7, 3, 0, 0, 2))
}

func TestNewestOfOtherLabels(t *testing.T) {
	for label := range 64 {
		a, b := of(label, 4, 2, 3, 4), of(label, 5, 3, 2, 4)
		for asked := -2; asked < 300; asked++ {
			if asked == label {
				newest(t, plainPut(a), plainPut(b), asked, b)
			} else {
				none(t, plainPut(a), plainPut(b), asked)
			}
		}
		for _, asked := range wrongNumbers() {
			none(t, plainPut(a), plainPut(b), asked)
		}
	}
	// One of two is another label's, be it the newer one or not.
	for _, other := range []int{0, 6, 8, 63} {
		for _, x := range []struct{ even, odd uint64 }{{4, 5}, {4, 3}, {4, greatest}, {greatest - 1, 3}} {
			a, b := of(7, x.even, 2, 3, 4), of(other, x.odd, 3, 2, 4)
			newest(t, plainPut(a), plainPut(b), 7, a)
			newest(t, plainPut(a), plainPut(b), other, b)
			none(t, plainPut(a), plainPut(b), 9)
			a.Label, b.Label = other, 7
			newest(t, plainPut(a), plainPut(b), 7, b)
			newest(t, plainPut(a), plainPut(b), other, a)
		}
	}
}

// notMetas is bytes of which Get has an error.
func notMetas() [][]byte {
	m := of(7, 258, 2, 3, 4)
	odd := of(7, 259, 2, 3, 4)
	return [][]byte{
		nil, {}, {0}, make([]byte, 127), make([]byte, 128), make([]byte, 129), plainPut(m)[:127], plainPut(m)[1:], append(plainPut(m), 0), append(plainPut(odd), 0), missummed(plainPut(m)), missummed(plainPut(odd)),
		page(1, plainCell(m)), page(1, plainCell(odd)), page(5), page(5, plainCell(m), ""), page(5, plainCell(odd), ""), page(5, plainCell(m)[:18]), page(5, plainCell(m)+"\x00"), page(5, "atem"+plainCell(m)[4:]),
		plainPut(of(7, 0, 2, 3, 4)), plainPut(of(64, 258, 2, 3, 4)), plainPut(of(7, 258, 1, 3, 4)), plainPut(of(7, 258, 2, 4, 4)), plainPut(of(7, 258, 3, 3, 4)), plainPut(of(7, 259, 3, 3, 4)), plainPut(of(7, 259, 2, 3, 1001)),
	}
}

func TestNewestOfDamagedPages(t *testing.T) {
	even, odd := of(7, 258, 2, 3, 4), of(7, 259, 3, 2, 4)
	for _, x := range notMetas() {
		newest(t, plainPut(even), x, 7, even)
		newest(t, x, plainPut(odd), 7, odd)
		none(t, plainPut(odd), x, 7)
		none(t, x, plainPut(even), 7)
		none(t, plainPut(even), x, 6)
		for _, y := range notMetas() {
			for _, label := range []int{7, 0, 64, -1} {
				none(t, x, y, label)
			}
		}
	}
	newest(t, plainPut(even), plainPut(odd), 7, odd)
}

// TestNewestOfLabel0 holds that a page that is none isn't taken for one of label 0.
func TestNewestOfLabel0(t *testing.T) {
	none(t, nil, nil, 0)
	none(t, make([]byte, 128), make([]byte, 128), 0)
	none(t, plainPut(meta.Meta{}), plainPut(meta.Meta{}), 0)
	none(t, plainPut(of(0, 0, 0, 0, 2)), nil, 0)
	newest(t, nil, plainPut(of(0, 1, 0, 0, 2)), 0, of(0, 1, 0, 0, 2))
	newest(t, plainPut(of(0, 2, 0, 0, 2)), nil, 0, of(0, 2, 0, 0, 2))
}

// TestNewestOfWildPages has pages of few labels and versions, some of them damaged.
func TestNewestOfWildPages(t *testing.T) {
	roll := dice(4)
	one := func() (*meta.Meta, []byte) {
		if l := notMetas(); roll(5) == 0 {
			return nil, l[roll(len(l))]
		}
		m := some(roll, uint64(roll(6)+1)<<[]int{0, 0, 0, 31, 61}[roll(5)])
		m.Label = roll(3)
		return &m, plainPut(m)
	}
	found := 0
	for range 20000 {
		m, a := one()
		n, b := one()
		label := roll(4)
		if want, ok := plainNewest(m, n, label); ok {
			found++
			newest(t, a, b, label, want)
		} else {
			none(t, a, b, label)
		}
	}
	if found < 2000 || found > 18000 {
		t.Errorf("%d of them had one", found)
	}
}

// Rule 3: arguments are neither modified nor retained, and results are in new memory.

func TestGetLeavesItsArgument(t *testing.T) {
	for _, b := range append(notMetas(), plainPut(of(7, 258, 2, 3, 4)), plainPut(of(63, greatest, 998, 999, 1000))) {
		whole := append(bytes.Clone(b), "behind it"...)
		was := bytes.Clone(whole)
		first, e := meta.Get(whole[:len(b)])
		if !bytes.Equal(whole, was) {
			t.Errorf("Get made its argument %x, want %x", whole, was)
		}
		clear(whole)
		if again, f := meta.Get(was[:len(b)]); again != first || f != e {
			t.Errorf("Get(%x) = %+v, %d, then %+v, %d", b, first, e, again, f)
		}
	}
}

func TestNewestLeavesItsArguments(t *testing.T) {
	good := [][]byte{plainPut(of(7, 258, 2, 3, 4)), plainPut(of(7, 259, 3, 2, 4)), plainPut(of(7, 257, 3, 2, 4))}
	for _, a := range append(notMetas(), good...) {
		for _, b := range append(notMetas(), good...) {
			a, b := append(bytes.Clone(a), "behind"...), append(bytes.Clone(b), "behind"...)
			wasA, wasB := bytes.Clone(a), bytes.Clone(b)
			m, ok := meta.Newest(a[:len(a)-6], b[:len(b)-6], 7)
			if !bytes.Equal(a, wasA) || !bytes.Equal(b, wasB) {
				t.Errorf("Newest made its arguments %x and %x, want %x and %x", a, b, wasA, wasB)
			}
			clear(a)
			clear(b)
			if n, again := meta.Newest(wasA[:len(a)-6], wasB[:len(b)-6], 7); n != m || again != ok {
				t.Errorf("Newest(%x, %x, 7) = %+v, %v, then %+v, %v", wasA, wasB, m, ok, n, again)
			}
		}
	}
}

func TestPutIsNewMemory(t *testing.T) {
	for _, m := range []meta.Meta{of(0, 1, 0, 0, 2), of(7, 258, 2, 3, 4), of(63, greatest, 998, 999, 1000)} {
		first, other := puts(t, m), puts(t, m)
		for i := range first[:cap(first)] {
			first[:cap(first)][i] = 'y'
		}
		_ = append(first[:0], "longer"...)
		if !bytes.Equal(other, plainPut(m)) {
			t.Errorf("Put of %+v became %x when another answer was changed", m, other)
		}
		gets(t, puts(t, m), m)
	}
}

// TestAnswersHangOnArgumentsAlone asks in other orders, with calls that fail between.
func TestAnswersHangOnArgumentsAlone(t *testing.T) {
	all := valid()
	for i, m := range all {
		b := puts(t, m)
		notPut(t, of(m.Label, m.Txn, 1, 1, m.High))
		refused(t, b[:127], api.ErrArg)
		none(t, nil, nil, m.Label)
		puts(t, all[len(all)-1-i])
		gets(t, plainPut(all[len(all)-1-i]), all[len(all)-1-i])
		gets(t, b, m)
		newest(t, b, b, m.Label, m)
	}
}

// P10.4

func TestGetOfPut(t *testing.T) {
	roll := dice(5)
	for range 5000 {
		m := some(roll, uint64(roll(1<<30))<<roll(35)+1)
		gets(t, puts(t, m), m)
	}
	for _, m := range valid() {
		gets(t, puts(t, m), m)
	}
}

func TestPutOfGet(t *testing.T) {
	for _, m := range valid() {
		b := plainPut(m)
		got, e := meta.Get(b)
		if e != api.OK {
			t.Fatalf("Get of %+v = %d", m, e)
		}
		if again := puts(t, got); !bytes.Equal(again, b) {
			t.Errorf("Put of what was got = %x, want %x", again, b)
		}
	}
}

// TestVersionAheadOfADamagedOne goes on from version to version, and damages each one when it is the latest.
func TestVersionAheadOfADamagedOne(t *testing.T) {
	roll := dice(6)
	for _, start := range []uint64{1, 2, 255, 1<<32 - 3, 1<<63 - 3, greatest - 41} {
		label := roll(64)
		ahead := some(roll, start)
		ahead.Label = label
		var pages [2][]byte
		pages[meta.Slot(start)] = puts(t, ahead)
		newest(t, pages[0], pages[1], label, ahead)
		for txn := start + 1; txn < start+40; txn++ {
			m := some(roll, txn)
			m.Label = label
			pages[meta.Slot(txn)] = puts(t, m)
			newest(t, pages[0], pages[1], label, m)
			for range 20 {
				damaged := pages
				b := bytes.Clone(pages[meta.Slot(txn)])
				b[roll(128)] ^= byte(1 + roll(255))
				damaged[meta.Slot(txn)] = b
				newest(t, damaged[0], damaged[1], label, ahead)
				damaged[meta.Slot(txn)] = b[:roll(128)]
				newest(t, damaged[0], damaged[1], label, ahead)
			}
			ahead = m
		}
	}
}

// TestOfADevice writes versions to a region's meta pages, the last one of which may be lost.
func TestOfADevice(t *testing.T) {
	d, e := disk.New([]int{4})
	if e != api.OK {
		t.Fatal(e)
	}
	read := func(page int) []byte {
		b, e := d.Read(0, page)
		if e != api.OK {
			t.Fatal(e)
		}
		return b
	}
	none(t, read(0), read(1), 0)
	var last meta.Meta
	for txn := uint64(1); txn < 30; txn++ {
		m := of(0, txn, 0, 2+int(txn%2), 4)
		d.Write(0, meta.Slot(txn), puts(t, m))
		newest(t, read(0), read(1), 0, m)
		if txn%3 == 0 {
			d.Crash(nil) // it was not synced
			newest(t, read(0), read(1), 0, last)
			d.Write(0, meta.Slot(txn), puts(t, m))
		}
		d.Sync(0)
		d.Crash(nil)
		newest(t, read(0), read(1), 0, m)
		last = m
	}
}
