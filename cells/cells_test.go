package cells_test

import (
	"bytes"
	"encoding/hex"
	"hash/crc32"
	"slices"
	"strings"
	"testing"

	"jalousie/api"
	"jalousie/cells"
)

// The signatures that the chapter lists: another one doesn't compile.
var (
	_ func([][]byte) int                       = cells.Size
	_ func(byte, [][]byte) ([]byte, api.Errno) = cells.Pack
	_ func([]byte) (byte, [][]byte, api.Errno) = cells.Unpack
)

// dice produces numbers below one, which look like chance and are the same for one seed.
func dice(seed uint64) func(below int) int {
	return func(below int) int {
		seed = seed*6364136223846793005 + 1442695040888963407
		return int(seed >> 33 % uint64(below))
	}
}

// of is cells, one a text.
func of(l ...string) [][]byte {
	var out [][]byte
	for _, s := range l {
		out = append(out, []byte(s))
	}
	return out
}

// empty is so many empty cells.
func empty(n int) [][]byte { return slices.Repeat([][]byte{{}}, n) }

// long is a cell of so many bytes, which all differ up to 255 of them.
func long(size int) []byte {
	b := make([]byte, size)
	for i := range b {
		b[i] = byte(i*7 + 1)
	}
	return b
}

// same tells whether cells are the same; nil and empty ones are.
func same(a, b [][]byte) bool { return slices.EqualFunc(a, b, bytes.Equal) }

// copied is cells in memory of their own.
func copied(l [][]byte) [][]byte {
	var out [][]byte
	for _, c := range l {
		out = append(out, bytes.Clone(c))
	}
	return out
}

// summed is a page of 124 bytes, behind their sum.
func summed(body []byte) []byte {
	sum := crc32.ChecksumIEEE(body)
	return append([]byte{byte(sum >> 24), byte(sum >> 16), byte(sum >> 8), byte(sum)}, body...)
}

// resummed is a page with the right sum, whatever is behind it.
func resummed(page []byte) []byte { return summed(page[4:]) }

// The page, done as the chapter says it.

// plain is the page of a kind and cells that have room.
func plain(kind byte, l [][]byte) []byte {
	slots, tail := []byte{}, []byte{}
	for _, c := range l {
		tail = slices.Concat(c, tail)
		slots = append(slots, byte(128-len(tail)))
	}
	zeros := make([]byte, 122-len(slots)-len(tail))
	return summed(slices.Concat([]byte{kind, byte(len(l))}, slots, zeros, tail))
}

// plainUnpack is what there is in a page of 128 bytes; false: it is none.
func plainUnpack(b []byte) (byte, [][]byte, bool) {
	n := int(b[5])
	if b[4] == 0 || n > 122 {
		return 0, nil, false
	}
	var l [][]byte
	ends := slices.Concat([]byte{128}, b[6:6+n])
	for i := range n {
		if ends[i+1] > ends[i] {
			return 0, nil, false
		}
		l = append(l, b[ends[i+1]:ends[i]])
	}
	least := int(ends[n])
	if least < 6+n || strings.Trim(string(b[6+n:least]), "\x00") != "" {
		return 0, nil, false
	}
	return b[4], l, true
}

// some is cells whose size is at most 122, others for each seed.
func some(roll func(int) int) [][]byte {
	var l [][]byte
	room := roll(123)
	for room > 0 {
		size := roll(min(room, 1+roll(60)))
		c := make([]byte, size)
		for i := range c {
			c[i] = byte(roll(256)) & byte(roll(256)) & byte(-roll(2))
		}
		l = append(l, c)
		room -= size + 1
	}
	return l
}

// fitting is cells that have room: the edges, and many others.
func fitting() [][][]byte {
	out := [][][]byte{
		nil, {}, {nil}, {{}}, of("a"), of("", "a"), of("a", ""), of("a", "", ""), of("", "", "a"), of("a", "", "b"),
		of("ab"), of("a", "b"), of("b", "a"), of("\x00"), of("\x00", ""), of("", "\x00"), of("\x00", "\x00"), of("\x00\x00"),
		of("ab", "cde", "", "f"), of("\x80"), of("\x01\x7f"), of("\xff\xff\xff"), empty(2), empty(3), empty(61), empty(121), empty(122),
		{long(120)}, {long(121)}, {make([]byte, 121)}, {long(120), {}}, {{}, long(120)}, {long(60), long(60)}, {long(59), {}, long(60)},
		append(empty(60), long(61)), append([][]byte{long(61)}, empty(60)...), append(empty(120), []byte{1}), append([][]byte{{1}}, empty(120)...),
		slices.Repeat(of("x"), 60), slices.Repeat(of("x"), 61), slices.Repeat(of("\x00"), 61), slices.Repeat(of("xyz"), 30), slices.Repeat(of("x", ""), 40),
	}
	for size := range 122 {
		out = append(out, [][]byte{long(size)})
	}
	for n := range 123 {
		out = append(out, empty(n))
	}
	roll := dice(7)
	for range 2000 {
		out = append(out, some(roll))
	}
	return out
}

// tooLarge is cells that have no room.
func tooLarge() [][][]byte {
	out := [][][]byte{
		{long(122)}, {long(121), {}}, {{}, long(121)}, {{}, long(120), {}}, {long(61), long(60)}, {long(60), {}, long(60)},
		append(slices.Repeat(of("x"), 61), nil), append(slices.Repeat(of("x"), 60), of("xy")...), slices.Repeat(of("x"), 62),
		append(empty(121), []byte{1}), append([][]byte{{1}}, empty(121)...), slices.Repeat([][]byte{nil}, 123),
		slices.Repeat([][]byte{long(121)}, 3), {long(123)}, {long(124)}, {long(128)}, {long(255)}, {long(256)}, {long(400)}, {long(1 << 16)}, {long(1<<16 + 1)}, {long(1 << 20)},
	}
	for n := 123; n < 520; n++ { // numbers too that are few again as a byte
		out = append(out, empty(n))
	}
	for size := 122; size < 520; size++ {
		out = append(out, [][]byte{make([]byte, size)})
	}
	return append(out, empty(1<<16), empty(1<<16+3))
}

// packed is a page, whose kind and cells there must be room for.
func packed(t *testing.T, kind byte, l [][]byte) []byte {
	t.Helper()
	b, e := cells.Pack(kind, l)
	if e != api.OK || len(b) != 128 {
		t.Fatalf("Pack(%d, %x) = %x, %d", kind, l, b, e)
	}
	return b
}

// unpacks holds what Unpack tells.
func unpacks(t *testing.T, b []byte, kind byte, l [][]byte) {
	t.Helper()
	if k, got, e := cells.Unpack(b); e != api.OK || k != kind || !same(got, l) {
		t.Errorf("Unpack(%x) = %d, %x, %d, want %d, %x", b, k, got, e, kind, l)
	}
}

// refused holds that Unpack has an error, and nothing beside it.
func refused(t *testing.T, b []byte, want api.Errno) {
	t.Helper()
	if k, l, e := cells.Unpack(b); e != want || k != 0 || len(l) != 0 {
		t.Errorf("Unpack(%x) = %d, %x, %d, want error %d", b, k, l, e, want)
	}
}

// P7.1

func TestSize(t *testing.T) {
	for _, x := range []struct {
		l    [][]byte
		want int
	}{
		{nil, 0}, {[][]byte{}, 0}, {[][]byte{nil}, 1}, {of(""), 1}, {of("a"), 2}, {of("abc"), 4}, {of("", "a"), 3}, {of("a", ""), 3}, {of("ab", "cde", "", "f"), 10},
		{empty(122), 122}, {empty(123), 123}, {empty(255), 255}, {empty(256), 256}, {empty(1000), 1000}, {[][]byte{long(121)}, 122}, {[][]byte{long(122)}, 123},
		{[][]byte{long(255)}, 256}, {[][]byte{long(400), long(400)}, 802}, {slices.Repeat([][]byte{long(1 << 16)}, 1000), 65537000}, {[][]byte{make([]byte, 5, 100)}, 6},
	} {
		if got := cells.Size(x.l); got != x.want {
			t.Errorf("Size of %d cells = %d, want %d", len(x.l), got, x.want)
		}
	}
	for _, l := range slices.Concat(fitting(), tooLarge()) {
		if got, want := cells.Size(l), len(slices.Concat(l...))+len(l); got != want {
			t.Errorf("Size of %d cells = %d, want %d", len(l), got, want)
		}
	}
}

func TestExample(t *testing.T) {
	b := packed(t, 1, of("a"))
	if b[127] != 97 || b[6] != 127 {
		t.Errorf("Pack(1, a) = %x", b)
	}
	unpacks(t, b, 1, of("a"))
}

// TestPackKnown has pages that are written out, but for the zeros.
func TestPackKnown(t *testing.T) {
	for _, x := range []struct {
		kind       byte
		l          [][]byte
		head, tail string // behind the sum, and at the very end
	}{
		{1, nil, "01 00", ""},
		{255, nil, "ff 00", ""},
		{1, of(""), "01 01 80", ""},
		{1, of("a"), "01 01 7f", "61"},
		{255, of("a"), "ff 01 7f", "61"},
		{2, of("", "a"), "02 02 80 7f", "61"},
		{2, of("a", ""), "02 02 7f 7f", "61"},
		{2, of("", "", "a", "", "b"), "02 05 80 80 7f 7f 7e", "62 61"},
		{3, of("ab", "c", "", "def"), "03 04 7e 7d 7d 7a", "64 65 66 63 61 62"},
		{4, of("\x00", "\x00\x01"), "04 02 7f 7d", "00 01 00"},
		{5, empty(4), "05 04 80 80 80 80", ""},
		{6, empty(122), "06 7a" + strings.Repeat(" 80", 122), ""},
		{7, [][]byte{bytes.Repeat([]byte{9}, 121)}, "07 01 07", strings.Repeat(" 09", 121)},
		{8, append(empty(60), bytes.Repeat([]byte{9}, 61)), "08 3d" + strings.Repeat(" 80", 60) + " 43", strings.Repeat("09", 61)},
		{9, slices.Repeat(of("x"), 4), "09 04 7f 7e 7d 7c", "78 78 78 78"},
	} {
		head, tail := fromHex(t, x.head), fromHex(t, x.tail)
		want := summed(slices.Concat(head, make([]byte, 124-len(head)-len(tail)), tail))
		if got := packed(t, x.kind, x.l); !bytes.Equal(got, want) {
			t.Errorf("Pack(%d, %x) = %x, want %x", x.kind, x.l, got, want)
		}
		unpacks(t, want, x.kind, x.l)
	}
}

// fromHex is bytes that are written out.
func fromHex(t *testing.T, s string) []byte {
	t.Helper()
	b, err := hex.DecodeString(strings.ReplaceAll(s, " ", ""))
	if err != nil {
		t.Fatal(err)
	}
	return b
}

// TestPackOfAKnownSum has pages whose sum is written out too.
func TestPackOfAKnownSum(t *testing.T) {
	for _, x := range []struct {
		kind byte
		l    [][]byte
		sum  string
	}{
		{1, nil, "61 d1 f4 99"},
		{1, of("a"), "04 7a 15 1d"},
		{255, empty(122), "b4 2f dc 7b"},
	} {
		if got := packed(t, x.kind, x.l)[:4]; !bytes.Equal(got, fromHex(t, x.sum)) {
			t.Errorf("the sum of Pack(%d, %x) is % x, want %s", x.kind, x.l, got, x.sum)
		}
	}
}

func TestPack(t *testing.T) {
	for i, l := range fitting() {
		for _, kind := range []byte{1, 2, 128, 255, byte(i%255 + 1)} {
			if got, want := packed(t, kind, l), plain(kind, l); !bytes.Equal(got, want) {
				t.Errorf("Pack(%d, %x) = %x, want %x", kind, l, got, want)
			}
		}
	}
}

func TestPackOfEachKind(t *testing.T) {
	for kind := byte(1); kind != 0; kind++ {
		for _, l := range [][][]byte{nil, of("a"), of("ab", "", "c"), empty(122), {long(121)}} {
			if got, want := packed(t, kind, l), plain(kind, l); !bytes.Equal(got, want) {
				t.Errorf("Pack(%d, %x) = %x, want %x", kind, l, got, want)
			}
		}
	}
}

// notPacked holds that Pack has ErrArg, and nothing beside it.
func notPacked(t *testing.T, kind byte, l [][]byte) {
	t.Helper()
	if b, e := cells.Pack(kind, l); e != api.ErrArg || len(b) != 0 {
		t.Errorf("Pack(%d, %d cells of size %d) = %x, %d, want ErrArg", kind, len(l), len(slices.Concat(l...))+len(l), b, e)
	}
}

func TestPackOfKind0(t *testing.T) {
	for _, l := range slices.Concat(fitting(), tooLarge()) {
		notPacked(t, 0, l)
	}
}

func TestPackOfTooLarge(t *testing.T) {
	for i, l := range tooLarge() {
		notPacked(t, 1, l)
		notPacked(t, byte(i%255+1), l)
		notPacked(t, 255, l)
	}
}

// TestPackByOneByteTooMany has cells that fill a page just so, and each of them longer by one byte.
func TestPackByOneByteTooMany(t *testing.T) {
	roll := dice(11)
	for range 300 {
		l := some(roll)
		l = append(l, long(max(0, 121-len(slices.Concat(l...))-len(l))))
		if len(slices.Concat(l...))+len(l) != 122 {
			continue
		}
		unpacks(t, packed(t, 1, l), 1, l)
		for i := range l {
			more := copied(l)
			more[i] = append(more[i], 0)
			notPacked(t, 1, more)
			notPacked(t, 1, slices.Insert(copied(l), i, nil))
		}
		notPacked(t, 1, append(copied(l), nil))
	}
}

func TestNilIsEmpty(t *testing.T) {
	for _, x := range [][2][][]byte{{nil, {}}, {{nil}, {{}}}, {{nil, {1}}, {{}, {1}}}, {{{1}, nil}, {{1}, {}}}, {slices.Repeat([][]byte{nil}, 122), empty(122)}} {
		if a, b := packed(t, 3, x[0]), packed(t, 3, x[1]); !bytes.Equal(a, b) {
			t.Errorf("Pack(%x) = %x, and with empty ones for nil %x", x[0], a, b)
		}
	}
}

// P7.2

func TestUnpack(t *testing.T) {
	for i, l := range fitting() {
		for _, kind := range []byte{1, 255, byte(i%255 + 1)} {
			unpacks(t, plain(kind, l), kind, l)
		}
	}
}

func TestUnpackOfEachKind(t *testing.T) {
	for kind := byte(1); kind != 0; kind++ {
		for _, l := range [][][]byte{nil, of("a"), of("ab", "", "c"), empty(122), {long(121)}} {
			unpacks(t, plain(kind, l), kind, l)
		}
	}
}

func TestUnpackOfWrongLength(t *testing.T) {
	refused(t, nil, api.ErrArg)
	for size := range 1200 {
		if size == 128 {
			continue
		}
		refused(t, make([]byte, size), api.ErrArg) // of a wrong sum too
		refused(t, long(size), api.ErrArg)
		if size < 5 {
			continue
		}
		body := make([]byte, size-4)
		body[0] = 1
		refused(t, summed(body), api.ErrArg) // of a right one too
	}
	for _, l := range [][][]byte{nil, of("a"), empty(122), {long(121)}, {make([]byte, 121)}} {
		page := plain(1, l)
		refused(t, page[:127], api.ErrArg) // though the byte is there, behind its end
		refused(t, page[1:], api.ErrArg)
		refused(t, page[4:], api.ErrArg)
		refused(t, resummed(page[:127]), api.ErrArg)
		refused(t, resummed(slices.Concat(page[:6], page[7:])), api.ErrArg)
		for _, more := range [][]byte{{0}, {1}, make([]byte, 4), page} {
			refused(t, slices.Concat(page, more), api.ErrArg)
			refused(t, slices.Concat(more, page), api.ErrArg)
			refused(t, resummed(slices.Concat(page, more)), api.ErrArg)
		}
	}
}

func TestUnpackOfARoomyPage(t *testing.T) {
	for _, l := range [][][]byte{nil, of("a"), empty(122), {long(121)}} {
		whole := slices.Concat(plain(9, l), []byte("more"))
		unpacks(t, whole[:128], 9, l)
	}
}

func TestUnpackOfAWrongSum(t *testing.T) {
	refused(t, make([]byte, 128), api.ErrSum)
	refused(t, bytes.Repeat([]byte{255}, 128), api.ErrSum)
	for _, l := range [][][]byte{nil, of("a"), of("", "ab", "c"), empty(122), {long(121)}} {
		page := plain(1, l)
		for bit := range 8 * 128 {
			page[bit/8] ^= 1 << (bit % 8)
			refused(t, page, api.ErrSum)
			page[bit/8] ^= 1 << (bit % 8)
		}
		for i := range 4 {
			for more := 1; more < 256; more++ {
				page[i] += byte(more)
				refused(t, page, api.ErrSum)
				page[i] -= byte(more)
			}
		}
		for _, sum := range [][]byte{{0, 0, 0, 0}, {page[3], page[2], page[1], page[0]}, {^page[0], ^page[1], ^page[2], ^page[3]}, {page[1], page[0], page[3], page[2]}} {
			refused(t, slices.Concat(sum, page[4:]), api.ErrSum)
		}
		refused(t, slices.Concat(page[4:], page[:4]), api.ErrSum) // behind the bytes
	}
}

// malformed is bytes behind a sum, which is to be set, that Pack would never write; each is told why.
func malformed() map[string][]byte {
	out := map[string][]byte{}
	add := func(why string, kind byte, n int, slots, tail []byte) {
		b := make([]byte, 128)
		b[4], b[5] = kind, byte(n)
		copy(b[6:], slots)
		copy(b[128-len(tail):], tail)
		out[why] = b
	}
	add("zeros", 0, 0, nil, nil)
	add("kind 0 and a cell", 0, 1, []byte{127}, []byte("a"))
	add("kind 0 and an empty cell", 0, 1, []byte{128}, nil)
	add("kind 0 and no room", 0, 1, []byte{7}, long(121))
	add("a cell that isn't counted", 1, 0, []byte{127}, []byte("a"))
	add("a slot that isn't counted", 1, 1, []byte{127, 127}, []byte("a"))
	add("a byte at the end of no cell", 1, 0, nil, []byte("a"))
	add("a byte ahead of the last cell", 1, 1, []byte{127}, []byte("ba"))
	add("a byte ahead of an empty cell", 1, 1, []byte{128}, []byte("a"))
	add("more counted than slots", 1, 2, []byte{127}, []byte("a"))
	add("an empty cell without its slot", 1, 1, nil, nil)
	add("a slot behind the page", 1, 1, []byte{129}, nil)
	add("the last slot there is", 1, 1, []byte{255}, nil)
	add("a slot in the sum", 1, 1, []byte{0}, nil)
	add("a slot at the kind", 1, 1, []byte{4}, nil)
	add("a slot at the number of cells", 1, 1, []byte{5}, nil)
	add("a slot at itself", 1, 1, []byte{6}, long(121))
	add("a cell in the slots", 1, 2, []byte{128, 7}, long(120))
	add("slots that rise", 1, 2, []byte{126, 127}, []byte("ab"))
	add("slots that rise to the end", 1, 2, []byte{127, 128}, []byte("a"))
	add("slots that rise behind falling ones", 1, 3, []byte{127, 125, 126}, []byte("abc"))
	add("a first slot too high, and a right one", 1, 2, []byte{130, 127}, []byte("a"))
	add("122 empty cells and a kind 0", 0, 122, bytes.Repeat([]byte{128}, 122), nil)
	add("61 cells and a byte too many", 1, 62, append(bytes.Repeat([]byte{128}, 61), 67), bytes.Repeat([]byte{9}, 61))
	for n := 123; n < 256; n++ { // more slots than there is room for
		add("empty cells "+hex.EncodeToString([]byte{byte(n)}), 1, n, bytes.Repeat([]byte{128}, 122), nil)
		add("no slots of "+hex.EncodeToString([]byte{byte(n)}), 1, n, nil, nil)
	}
	return out
}

func TestUnpackOfARightSumAheadOfNoPage(t *testing.T) {
	for why, b := range malformed() {
		if k, l, e := cells.Unpack(resummed(b)); e != api.ErrForm || k != 0 || len(l) != 0 {
			t.Errorf("Unpack of %s = %d, %x, %d, want ErrForm", why, k, l, e)
		}
	}
}

// TestUnpackOfEachKindAndNumber has each kind ahead of each number of cells, over the same slots.
func TestUnpackOfEachKindAndNumber(t *testing.T) {
	for _, l := range [][][]byte{nil, of("a"), of("ab", "", "c"), empty(122)} {
		page := plain(1, l)
		for kind := range 256 {
			for n := range 256 {
				page[4], page[5] = byte(kind), byte(n)
				judged(t, resummed(page))
			}
		}
	}
}

// judged holds that Unpack tells of bytes with a right sum what the chapter says.
func judged(t *testing.T, b []byte) {
	t.Helper()
	kind, l, ok := plainUnpack(b)
	if ok != (len(l) <= 122 && kind != 0 && bytes.Equal(plain(kind, l), b)) {
		t.Fatalf("the test's own Unpack is wrong on %x", b)
	}
	if ok {
		unpacks(t, b, kind, l)
	} else {
		refused(t, b, api.ErrForm)
	}
}

// TestUnpackOfEachChangedByte has pages of which one byte is another one, behind a right sum.
func TestUnpackOfEachChangedByte(t *testing.T) {
	for _, l := range [][][]byte{nil, of(""), of("a"), of("", "ab", "c"), of("\x00", "\x00"), empty(122), empty(121), {long(121)}, {long(100)}, slices.Repeat(of("x"), 61), append(empty(60), long(61))} {
		page := plain(1, l)
		for i := 4; i < 128; i++ {
			was := page[i]
			for c := range 256 {
				page[i] = byte(c)
				judged(t, resummed(page))
			}
			page[i] = was
		}
	}
}

// TestUnpackOfEachBitBetween has a byte that isn't zero between slots and cells, in each place.
func TestUnpackOfEachBitBetween(t *testing.T) {
	for _, l := range [][][]byte{nil, of("a"), of("ab", "", "c"), empty(50), empty(121), {long(60)}, {long(120)}, slices.Repeat(of("x"), 60)} {
		page := plain(2, l)
		from, to := 6+len(l), 128-len(slices.Concat(l...))
		for i := from; i < to; i++ {
			for bit := range 8 {
				page[i] = 1 << bit
				refused(t, resummed(page), api.ErrForm)
			}
			page[i] = 0
		}
		unpacks(t, page, 2, l)
	}
}

// TestUnpackOfEachTwoSlots has all slots of two cells.
func TestUnpackOfEachTwoSlots(t *testing.T) {
	for _, l := range [][][]byte{of("", ""), {make([]byte, 3), make([]byte, 5)}, {long(60), long(60)}} {
		page := plain(1, l)
		for a := range 256 {
			for b := range 256 {
				page[6], page[7] = byte(a), byte(b)
				judged(t, resummed(page))
			}
		}
	}
}

func TestUnpackOfWildPages(t *testing.T) {
	roll := dice(3)
	for range 100000 {
		b := make([]byte, 128)
		b[4], b[5] = byte(roll(3)), byte(roll(1+roll(150)))
		at := 128
		for i := 6; i < min(6+int(b[5]), 128); i++ {
			at -= roll(1 + roll(8))
			b[i] = byte(max(at, 0))
		}
		for range roll(4) {
			b[4+roll(124)] = byte(roll(256))
		}
		for i := max(6+int(b[5]), at); i < 128; i++ {
			b[i] = byte(roll(256))
		}
		judged(t, resummed(b))
	}
}

// TestOrderOfErrors has bytes with several faults.
func TestOrderOfErrors(t *testing.T) {
	for why, b := range malformed() {
		right := resummed(b)
		for bit := range 32 {
			wrong := bytes.Clone(right)
			wrong[bit/8] ^= 1 << (bit % 8)
			if _, _, e := cells.Unpack(wrong); e != api.ErrSum { // ahead of being no page
				t.Errorf("Unpack of %s with a wrong sum = %d, want ErrSum", why, e)
			}
			refused(t, wrong[:127], api.ErrArg) // ahead of both
			refused(t, append(wrong, 0), api.ErrArg)
		}
		refused(t, resummed(right[:127]), api.ErrArg)
		refused(t, resummed(append(right, 0)), api.ErrArg)
	}
	notPacked(t, 0, empty(123)) // both faults have the same error
}

// Rule 3: arguments are neither modified nor retained, and results are in new memory.

func TestPackLeavesItsArgument(t *testing.T) {
	const all = "abcdefgh"
	whole := []byte(all)
	l := [][]byte{whole[:2], whole[2:2], whole[2:5], nil, whole[:3], whole[5:5], []byte("spare")}
	b := packed(t, 1, l[:6])
	want := bytes.Clone(b)
	clear(b)
	_ = append(b, "after"...)
	notPacked(t, 0, l[:6])
	cells.Size(l[:6])
	if string(whole) != all || string(l[6]) != "spare" || !same(l[:6], of("ab", "", "cde", "", "abc", "")) || l[3] != nil {
		t.Errorf("the argument became %q, %q", whole, l)
	}
	b = packed(t, 1, l[:6])
	clear(whole)
	clear(l)
	if !bytes.Equal(b, want) {
		t.Errorf("Pack became %x when its argument was changed, want %x", b, want)
	}
}

func TestUnpackLeavesItsArgument(t *testing.T) {
	for _, l := range [][][]byte{nil, of(""), of("a"), of("ab", "", "cde"), empty(122), {long(121)}} {
		whole := slices.Concat(plain(1, l), []byte("spare"))
		want := bytes.Clone(whole)
		k, got, e := cells.Unpack(whole[:128])
		if k != 1 || e != api.OK {
			t.Fatal(k, e)
		}
		for _, c := range got {
			clear(c)
			_ = append(c, "after"...)
		}
		clear(got)
		_ = append(got, []byte("after"))
		if !bytes.Equal(whole, want) {
			t.Errorf("the argument became %x, want %x", whole, want)
		}
		refused(t, whole[:127], api.ErrArg)
		whole[0] ^= 1
		refused(t, whole[:128], api.ErrSum)
		whole[0] ^= 1
		if !bytes.Equal(whole, want) {
			t.Errorf("the argument became %x, want %x", whole, want)
		}
	}
	for why, b := range malformed() {
		page := resummed(b)
		want := bytes.Clone(page)
		refused(t, page, api.ErrForm)
		if !bytes.Equal(page, want) {
			t.Errorf("%s became %x, want %x", why, page, want)
		}
	}
}

func TestUnpackedIsNewMemory(t *testing.T) {
	for _, l := range fitting()[:200] {
		page := plain(1, l)
		_, a, _ := cells.Unpack(page)
		_, b, _ := cells.Unpack(page)
		clear(page)
		if !same(a, l) {
			t.Errorf("Unpack became %x when its argument was changed, want %x", a, l)
		}
		for _, c := range a {
			clear(c)
		}
		clear(a)
		if !same(b, l) {
			t.Errorf("Unpack became %x when another answer was changed, want %x", b, l)
		}
	}
}

func TestPackedIsNewMemory(t *testing.T) {
	for _, l := range fitting()[:50] {
		a, b := packed(t, 1, l), packed(t, 1, l)
		clear(a)
		_ = append(a, "after"...)
		if want := plain(1, l); !bytes.Equal(b, want) || !bytes.Equal(packed(t, 1, l), want) {
			t.Errorf("Pack became %x when another answer was changed, want %x", b, want)
		}
	}
}

// TestCellsAreTheirOwn appends to each cell, and changes each one.
func TestCellsAreTheirOwn(t *testing.T) {
	for _, l := range [][][]byte{of("a"), of("ab", "cd"), of("", "a", "", "", "bc", ""), empty(122), slices.Repeat(of("x"), 61), {long(60), long(60)}, {long(60), {}, long(59)}} {
		for i := range l {
			_, got, e := cells.Unpack(plain(1, l))
			if e != api.OK {
				t.Fatal(e)
			}
			want := copied(l)
			longer := append(got[i], "after"...)
			if string(longer) != string(l[i])+"after" || !same(got, want) {
				t.Errorf("what was appended to cell %d of %x made them %x", i, l, got)
			}
			for k := range got[i] {
				got[i][k], want[i][k] = 'y', 'y'
			}
			if !same(got, want) {
				t.Errorf("what was written to cell %d of %x made them %x", i, l, got)
			}
			for _, c := range got { // nor is there room behind any of them
				if spare := c[len(c):cap(c)]; len(spare) > 0 {
					clear(spare)
				}
			}
			if !same(got, want) {
				t.Errorf("what was written behind cells of %x made them %x", l, got)
			}
		}
	}
}

// P7.3

func TestUnpackOfPack(t *testing.T) {
	for i, l := range fitting() {
		kind := byte(i%255 + 1)
		unpacks(t, packed(t, kind, l), kind, l)
	}
	for kind := byte(1); kind != 0; kind++ {
		unpacks(t, packed(t, kind, of("ab", "", "c")), kind, of("ab", "", "c"))
	}
}

func TestPackOfUnpack(t *testing.T) {
	for i, l := range fitting() {
		page := plain(byte(i%255+1), l)
		kind, got, e := cells.Unpack(page)
		if e != api.OK {
			t.Fatalf("Unpack(%x) = %d", page, e)
		}
		if again := packed(t, kind, got); !bytes.Equal(again, page) {
			t.Errorf("Pack of Unpack(%x) = %x", page, again)
		}
	}
}

// TestPagesAreEqualJustIfTheirCellsAre holds each of many pages against each other one.
func TestPagesAreEqualJustIfTheirCellsAre(t *testing.T) {
	lists := fitting()[:400]
	for _, a := range []byte{1, 2, 255} {
		for _, b := range []byte{1, 255} {
			equal(t, a, b, lists)
		}
	}
}

func equal(t *testing.T, a, b byte, lists [][][]byte) {
	t.Helper()
	var as, bs [][]byte
	for _, l := range lists {
		as, bs = append(as, packed(t, a, l)), append(bs, packed(t, b, l))
	}
	for i, p := range as {
		for k, q := range bs {
			if want := a == b && same(lists[i], lists[k]); bytes.Equal(p, q) != want {
				t.Errorf("the pages of %d, %x and %d, %x are equal: %v, want %v", a, lists[i], b, lists[k], !want, want)
			}
		}
	}
}
