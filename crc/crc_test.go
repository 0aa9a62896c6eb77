package crc_test

import (
	"bytes"
	"hash/crc32"
	"math"
	"math/bits"
	"strings"
	"testing"

	"jalousie/crc"
)

// The signatures that the chapter lists: another one doesn't compile.
var (
	_ func([]byte) uint32         = crc.Of
	_ func(uint32, []byte) uint32 = crc.On
	_ func([]byte) []byte         = crc.Tag
	_ func([]byte) ([]byte, bool) = crc.Open
)

// known are sums that others tell.
var known = []struct {
	s   string
	sum uint32
}{
	{"", 0},
	{"\x00", 0xd202ef8d},
	{"\xff", 0xff000000},
	{"a", 0xe8b7be43},
	{"abc", 0x352441c2},
	{"123456789", 3421780262}, // the chapter's example
	{"123456789", 0xcbf43926},
	{"The quick brown fox jumps over the lazy dog", 0x414fa339},
	{"\xff\xff\xff\xff", 0xffffffff},
	{strings.Repeat("\x00", 4), 0x2144df1c},
	{strings.Repeat("\x00", 32), 0x190a55ad},
	{strings.Repeat("\xff", 32), 0xff6cab0b},
}

// plain is the sum, done as the chapter says it, bit by bit.
func plain(b []byte) uint32 {
	x := uint32(math.MaxUint32)
	for _, c := range b {
		x ^= uint32(c)
		for range 8 {
			odd := x%2 == 1
			x /= 2
			if odd {
				x ^= 3988292384
			}
		}
	}
	return ^x
}

// some is so many bytes, others for each seed.
func some(seed uint64, size int) []byte {
	b := make([]byte, size)
	for i := range b {
		seed = seed*6364136223846793005 + 1442695040888963407
		b[i] = byte(seed >> 56)
	}
	return b
}

// lists are bytes of many lengths, those around a page's among them.
func lists() [][]byte {
	out := [][]byte{nil, {}, {0}, {0, 0, 0}, {0, 0, 0, 0}, {255, 255, 255, 255}}
	for c := range 256 {
		out = append(out, []byte{byte(c)}, []byte{byte(c), 1}, []byte{1, byte(c)})
	}
	for size := range 140 {
		out = append(out, some(uint64(size), size), make([]byte, size), bytes.Repeat([]byte{255}, size))
	}
	return append(out, some(1, 400), some(2, 100000))
}

// P2.1

func TestOfKnown(t *testing.T) {
	for _, k := range known {
		if got := crc.Of([]byte(k.s)); got != k.sum {
			t.Errorf("Of(%q) = %#08x, want %#08x", k.s, got, k.sum)
		}
	}
	if got := crc.Of(nil); got != 0 {
		t.Errorf("Of(nil) = %#08x, want 0", got)
	}
}

func TestOf(t *testing.T) {
	for _, b := range lists() {
		got := crc.Of(b)
		if want := plain(b); got != want {
			t.Errorf("Of(%x) = %#08x, want %#08x", b, got, want)
		}
		if want := crc32.ChecksumIEEE(b); got != want {
			t.Errorf("Of(%x) = %#08x, want the library's %#08x", b, got, want)
		}
	}
}

func TestOnAtEachPlace(t *testing.T) {
	for _, b := range [][]byte{[]byte("123456789"), make([]byte, 20), bytes.Repeat([]byte{255}, 20), some(7, 140)} {
		want := plain(b)
		for i := 0; i <= len(b); i++ {
			if got := crc.On(plain(b[:i]), b[i:]); got != want {
				t.Errorf("On(sum of %x, %x) = %#08x, want %#08x", b[:i], b[i:], got, want)
			}
		}
	}
}

func TestOnByteByByte(t *testing.T) {
	var sum uint32
	b := some(3, 200)
	for i := range b {
		sum = crc.On(sum, b[i:i+1])
		if want := plain(b[:i+1]); sum != want {
			t.Fatalf("after %d bytes the sum is %#08x, want %#08x", i+1, sum, want)
		}
	}
}

func TestOnNothing(t *testing.T) {
	for _, sum := range []uint32{0, 1, 0xcbf43926, 1 << 31, math.MaxUint32} {
		if got := crc.On(sum, nil); got != sum {
			t.Errorf("On(%#08x, nil) = %#08x", sum, got)
		}
		if got := crc.On(sum, []byte{}); got != sum {
			t.Errorf("On(%#08x, empty) = %#08x", sum, got)
		}
	}
}

func TestOnOfNothing(t *testing.T) {
	for _, b := range lists() {
		if got, want := crc.On(0, b), crc.Of(b); got != want {
			t.Errorf("On(0, %x) = %#08x, want %#08x", b, got, want)
		}
	}
}

// P2.2

func TestTag(t *testing.T) {
	if got := string(crc.Tag([]byte("123456789"))); got != "\xcb\xf4\x39\x26123456789" {
		t.Errorf("Tag(123456789) = %q", got)
	}
	for _, b := range lists() {
		sum := plain(b)
		want := append([]byte{byte(sum >> 24), byte(sum >> 16), byte(sum >> 8), byte(sum)}, b...)
		if got := crc.Tag(b); !bytes.Equal(got, want) {
			t.Errorf("Tag(%x) = %x, want %x", b, got, want)
		}
	}
}

func TestOpenOfTag(t *testing.T) {
	for _, b := range lists() {
		if got, ok := crc.Open(crc.Tag(b)); !ok || !bytes.Equal(got, b) {
			t.Errorf("Open(Tag(%x)) = %x, %v", b, got, ok)
		}
	}
	once := crc.Tag([]byte("abc"))
	if got, ok := crc.Open(crc.Tag(once)); !ok || !bytes.Equal(got, once) {
		t.Errorf("Open(Tag(Tag(abc))) = %x, %v", got, ok)
	}
}

// refused holds that bytes aren't opened, and that nothing is told beside that.
func refused(t *testing.T, b []byte) {
	t.Helper()
	if got, ok := crc.Open(b); ok || got != nil {
		t.Errorf("Open(%x) = %x, %v, want nil, false", b, got, ok)
	}
}

func TestOpenOfTooFew(t *testing.T) {
	refused(t, nil)
	for size := range 4 { // zeros too: they are the sum of nothing, but for what is missing
		refused(t, make([]byte, size))
		refused(t, bytes.Repeat([]byte{255}, size))
		refused(t, []byte("\xcb\xf4\x39\x26")[:size])
	}
}

func TestOpenOfFour(t *testing.T) {
	if got, ok := crc.Open(make([]byte, 4)); !ok || len(got) != 0 {
		t.Errorf("Open(the sum of nothing) = %x, %v, want nothing, true", got, ok)
	}
	for bit := range 32 {
		b := make([]byte, 4)
		b[bit/8] = 1 << (bit % 8)
		refused(t, b)
	}
	refused(t, []byte{255, 255, 255, 255})
}

func TestOpenOfAnotherSum(t *testing.T) {
	refused(t, []byte("\x26\x39\xf4\xcb123456789")) // the lowest byte first
	refused(t, []byte("\x34\x0b\xc6\xd9123456789")) // not inverted
	refused(t, []byte("123456789\xcb\xf4\x39\x26")) // behind the bytes
	refused(t, []byte("\xcb\xf4\x39\x26"))
	refused(t, []byte("\xcb\xf4\x39\x2612345678"))
	refused(t, []byte("\xcb\xf4\x39\x261234567890"))
	refused(t, []byte("\xcb\xf4\x39\x26123456798"))
	refused(t, []byte("\xf4\x39\x26123456789"))
	refused(t, []byte("\x00\xcb\xf4\x39\x26123456789"))
}

func TestOpenOfAChangedBit(t *testing.T) {
	for size := range 130 {
		b := crc.Tag(some(uint64(size), size))
		for bit := range 8 * len(b) {
			b[bit/8] ^= 1 << (bit % 8)
			refused(t, b)
			b[bit/8] ^= 1 << (bit % 8)
		}
	}
}

// Rule 3: arguments are neither modified nor retained, and results are in new memory.

func TestArgumentsAreLeft(t *testing.T) {
	const all = "\xcb\xf4\x39\x26123456789spare"
	whole := []byte(all)
	b := whole[:13]
	crc.Of(b)
	crc.On(5, b)
	tag := crc.Tag(b)
	rest, ok := crc.Open(b)
	if !ok {
		t.Fatal("Open = false")
	}
	clear(tag)
	clear(rest)
	_ = append(tag, "after"...)
	_ = append(rest, "after"...)
	if string(whole) != all {
		t.Errorf("the argument became %q, want %q", whole, all)
	}
}

func TestResultsAreNewMemory(t *testing.T) {
	b := []byte("abc")
	tag := crc.Tag(b)
	rest, _ := crc.Open(tag)
	clear(b)
	if got := string(tag); got != "\x35\x24\x41\xc2abc" {
		t.Errorf("Tag became %q when its argument was changed", got)
	}
	clear(tag)
	if got := string(rest); got != "abc" {
		t.Errorf("Open became %q when its argument was changed", got)
	}
	clear(crc.Tag([]byte("abc")))
	if got := string(crc.Tag([]byte("abc"))); got != "\x35\x24\x41\xc2abc" {
		t.Errorf("Tag = %q after an earlier result was changed", got)
	}
}

func TestResultsOfNothingAreNewMemory(t *testing.T) {
	whole := []byte("\x00\x00\x00\x00spare")
	rest, _ := crc.Open(whole[:4])
	_ = append(rest, "after"...)
	_ = append(crc.Tag(whole[:0]), "after"...)
	if string(whole) != "\x00\x00\x00\x00spare" {
		t.Errorf("the argument became %q", whole)
	}
}

// P2.3: bits are counted as the sum takes them in, the lowest of each byte first.

// flip changes those of 32 consecutive bits, from a bit on, that are 1 in mask.
func flip(b []byte, from int, mask uint32) []byte {
	out := bytes.Clone(b)
	for k := range 32 {
		if mask>>k&1 == 1 {
			out[(from+k)/8] ^= 1 << ((from + k) % 8)
		}
	}
	return out
}

func TestChangeWithin32Bits(t *testing.T) {
	masks := []uint32{1, 2, 3, 255, 0xf0f, 0x8001, 0xffff, 1 << 31, 1<<31 + 1, 0xedb88320, 0xdb710641, 0x04c11db7, math.MaxUint32}
	for k := range 32 {
		masks = append(masks, 1<<k, math.MaxUint32<<k, bits.RotateLeft32(0xedb88320, k), crc.Of([]byte{byte(k)}))
	}
	for _, b := range [][]byte{make([]byte, 4), make([]byte, 128), some(5, 4), some(6, 5), some(7, 128)} {
		sum := crc.Of(b)
		for from := 0; from+32 <= 8*len(b); from++ {
			for _, mask := range masks {
				if mask != 0 && crc.Of(flip(b, from, mask)) == sum {
					t.Errorf("the sum of %x stays with %#08x flipped from bit %d on", b, mask, from)
				}
			}
		}
	}
}

// TestEachChangeWithin32Bits covers all of them: a sum's change is the exclusive or of the single bits' changes, and no set of these comes to 0.
func TestEachChangeWithin32Bits(t *testing.T) {
	for _, b := range [][]byte{make([]byte, 4), some(8, 4), some(9, 40), some(10, 128)} {
		sum := crc.Of(b)
		for from := 0; from+32 <= 8*len(b); from++ {
			single := make([]uint32, 32)
			for k := range single {
				single[k] = crc.Of(flip(b, from, 1<<k)) ^ sum
			}
			if got := rank(single); got != 32 {
				t.Errorf("from bit %d on, the changes of %x have rank %d, want 32", from, b, got)
			}
			sumsUp(t, b, from, single)
		}
	}
}

// sumsUp holds that a change of several bits comes to the exclusive or of theirs.
func sumsUp(t *testing.T, b []byte, from int, single []uint32) {
	t.Helper()
	for i := range 8 {
		mask := crc.Of([]byte{byte(from), byte(i)})
		var want uint32
		for k, x := range single {
			if mask>>k&1 == 1 {
				want ^= x
			}
		}
		if got := crc.Of(flip(b, from, mask)) ^ crc.Of(b); got != want {
			t.Errorf("%#08x flipped from bit %d on changes the sum by %#08x, want %#08x", mask, from, got, want)
		}
	}
}

// rank is how many of the numbers are no exclusive or of others ahead of them.
func rank(xs []uint32) int {
	var base []uint32
	for _, x := range xs {
		for _, y := range base {
			x = min(x, x^y)
		}
		if x != 0 {
			base = append(base, x)
		}
	}
	return len(base)
}
