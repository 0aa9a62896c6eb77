package octet_test

import (
	"bytes"
	"math"
	"strings"
	"testing"

	"jalousie/api"
	"jalousie/octet"
)

// The signatures that the chapter lists: another one doesn't compile.
var (
	_ func(uint64, int) []byte       = octet.Num
	_ func(string) []byte            = octet.Text
	_ func([]byte) *octet.Taker      = octet.Take
	_ func(*octet.Taker, int) uint64 = (*octet.Taker).Num
	_ func(*octet.Taker) string      = (*octet.Taker).Text
	_ func(*octet.Taker) []byte      = (*octet.Taker).Rest
	_ func(*octet.Taker) api.Errno   = (*octet.Taker).Err
	_ func(*octet.Taker) api.Errno   = (*octet.Taker).Done
)

// full is the number all of whose bits are 1.
const full uint64 = math.MaxUint64

var (
	badSizes = []int{0, 9, -1, 10, 256, 257, math.MinInt, math.MaxInt}
	low8     = []byte{1, 2, 3, 4, 5, 6, 7, 8}
)

// P1.1

func TestNum(t *testing.T) {
	for _, c := range []struct {
		x    uint64
		size int
		want string
	}{
		{258, 2, "\x01\x02"}, // the chapter's example
		{0, 1, "\x00"},
		{0, 8, "\x00\x00\x00\x00\x00\x00\x00\x00"},
		{255, 1, "\xff"},
		{256, 1, "\x00"},
		{0x1234, 1, "\x34"},
		{7, 4, "\x00\x00\x00\x07"},
		{0x0102030405060708, 1, "\x08"},
		{0x0102030405060708, 2, "\x07\x08"},
		{0x0102030405060708, 3, "\x06\x07\x08"},
		{0x0102030405060708, 4, "\x05\x06\x07\x08"},
		{0x0102030405060708, 5, "\x04\x05\x06\x07\x08"},
		{0x0102030405060708, 6, "\x03\x04\x05\x06\x07\x08"},
		{0x0102030405060708, 7, "\x02\x03\x04\x05\x06\x07\x08"},
		{0x0102030405060708, 8, "\x01\x02\x03\x04\x05\x06\x07\x08"},
		{full, 3, "\xff\xff\xff"},
		{full, 8, "\xff\xff\xff\xff\xff\xff\xff\xff"},
	} {
		if got := octet.Num(c.x, c.size); string(got) != c.want {
			t.Errorf("Num(%#x, %d) = %x, want %x", c.x, c.size, got, c.want)
		}
	}
}

func TestNumOfBadSize(t *testing.T) {
	for _, size := range badSizes {
		if got := octet.Num(full, size); got != nil {
			t.Errorf("Num(.., %d) = %x, want nil", size, got)
		}
	}
}

func TestText(t *testing.T) {
	for _, c := range []struct{ s, want string }{
		{"ab", "\x02ab"}, // the chapter's example
		{"", "\x00"},
		{"a", "\x01a"},
		{"\x00\xff\xc3", "\x03\x00\xff\xc3"}, // bytes, whether or not they are characters
		{"\u00e4", "\x02\xc3\xa4"},
		{strings.Repeat("x", 254), "\xfe" + strings.Repeat("x", 254)},
		{strings.Repeat("x", 255), "\xff" + strings.Repeat("x", 255)},
		{strings.Repeat("x", 255) + "y", "\xff" + strings.Repeat("x", 255)},
		{strings.Repeat("x", 254) + "yz", "\xff" + strings.Repeat("x", 254) + "y"},
		{"a" + strings.Repeat("b", 10000), "\xffa" + strings.Repeat("b", 254)},
	} {
		if got := octet.Text(c.s); string(got) != c.want {
			t.Errorf("Text(%q) = %q, want %q", c.s, got, c.want)
		}
	}
}

// P1.2

// A step calls a Taker, and holds what it returns against what it is to return.
type step func(t *testing.T, x *octet.Taker)

func num(size int, want uint64) step {
	return func(t *testing.T, x *octet.Taker) {
		t.Helper()
		if got := x.Num(size); got != want {
			t.Errorf("Num(%d) = %#x, want %#x", size, got, want)
		}
	}
}

func text(want string) step {
	return func(t *testing.T, x *octet.Taker) {
		t.Helper()
		if got := x.Text(); got != want {
			t.Errorf("Text() = %q, want %q", got, want)
		}
	}
}

func rest(want string) step {
	return func(t *testing.T, x *octet.Taker) {
		t.Helper()
		if got := x.Rest(); string(got) != want {
			t.Errorf("Rest() = %q, want %q", got, want)
		}
	}
}

// is asks Err and Done, each twice, for asking changes nothing.
func is(err, done api.Errno) step {
	return func(t *testing.T, x *octet.Taker) {
		t.Helper()
		for range 2 {
			if got := x.Done(); got != done {
				t.Errorf("Done() = %d, want %d", got, done)
			}
			if got := x.Err(); got != err {
				t.Errorf("Err() = %d, want %d", got, err)
			}
		}
	}
}

// dead is what a Taker answers for good once it has an error.
func dead(err api.Errno) []step {
	return []step{
		is(err, err),
		num(1, 0), is(err, err),
		num(8, 0), is(err, err),
		text(""), is(err, err),
		rest(""), is(err, err),
		num(0, 0), is(err, err),
		num(9, 0), is(err, err),
		num(-1, 0), is(err, err),
	}
}

func run(t *testing.T, name string, x *octet.Taker, steps ...step) {
	t.Helper()
	t.Run(name, func(t *testing.T) {
		t.Helper()
		for _, s := range steps {
			s(t, x)
		}
	})
}

func TestTakerTakes(t *testing.T) {
	const ok, form = api.OK, api.ErrForm
	run(t, "in turn", octet.Take([]byte("\x01\x02\x03abc\x00\x09z!")),
		is(ok, form), num(2, 258), is(ok, form), text("abc"), is(ok, form), text(""), is(ok, form),
		num(1, 9), is(ok, form), rest("z!"), is(ok, ok), rest(""), is(ok, ok))
	run(t, "nothing", octet.Take(nil), is(ok, ok), rest(""), is(ok, ok))
	run(t, "empty", octet.Take([]byte{}), is(ok, ok), rest(""), is(ok, ok))
	run(t, "zero value", new(octet.Taker), is(ok, ok), rest(""), is(ok, ok))
	run(t, "all of it", octet.Take(low8), rest("\x01\x02\x03\x04\x05\x06\x07\x08"), is(ok, ok))
	run(t, "empty text at the end", octet.Take([]byte{0}), is(ok, form), text(""), is(ok, ok))
	run(t, "any bytes as a text", octet.Take([]byte("\x03\x00\xff\xc3")), text("\x00\xff\xc3"), is(ok, ok))
	long := strings.Repeat("x", 254) + "y"
	run(t, "longest text", octet.Take([]byte("\xff"+long+"z")), text(long), is(ok, form), rest("z"), is(ok, ok))
	run(t, "highest number", octet.Take(bytes.Repeat([]byte{255}, 9)), num(8, full), is(ok, form), num(1, 255), is(ok, ok))
}

func TestTakerNumOfEachSize(t *testing.T) {
	wants := []uint64{1, 0x0102, 0x010203, 0x01020304, 0x0102030405, 0x010203040506, 0x01020304050607, 0x0102030405060708}
	for i, want := range wants {
		size := i + 1
		run(t, "enough", octet.Take(low8[:size]), num(size, want), is(api.OK, api.OK))
		run(t, "more", octet.Take(append(bytes.Clone(low8[:size]), 99)), num(size, want), is(api.OK, api.ErrForm), num(1, 99), is(api.OK, api.OK))
		run(t, "one too few", octet.Take(low8[:size-1]), append([]step{num(size, 0)}, dead(api.ErrShort)...)...)
		run(t, "none", octet.Take(nil), append([]step{num(size, 0)}, dead(api.ErrShort)...)...)
	}
}

func TestTakerNumOfBadSize(t *testing.T) {
	for _, size := range badSizes {
		steps := append([]step{num(size, 0)}, dead(api.ErrArg)...)
		run(t, "with bytes", octet.Take(low8), steps...)
		run(t, "without bytes", octet.Take(nil), steps...) // ErrArg, for the chapter names it first
		run(t, "behind a number", octet.Take(low8), append([]step{num(1, 1)}, steps...)...)
	}
}

func TestTakerTextTooShort(t *testing.T) {
	for name, b := range map[string]string{
		"no length":                      "",
		"nothing behind it":              "\x01",
		"one too few":                    "\x03ab",
		"254 of 255":                     "\xff" + strings.Repeat("x", 254),
		"enough if the length counts it": "\x02a",
	} {
		run(t, name, octet.Take([]byte(b)), append([]step{text("")}, dead(api.ErrShort)...)...)
	}
	run(t, "second text", octet.Take([]byte("\x01a\x02b")), append([]step{text("a"), text("")}, dead(api.ErrShort)...)...)
}

func TestTakerKeepsTheFirstError(t *testing.T) {
	run(t, "short, then argument", octet.Take([]byte{1}), append([]step{num(2, 0), num(9, 0)}, dead(api.ErrShort)...)...)
	run(t, "argument, then short", octet.Take([]byte{1}), append([]step{num(9, 0), num(2, 0), text("")}, dead(api.ErrArg)...)...)
	// That bytes remain is no error that is kept.
	run(t, "bytes remain", octet.Take([]byte{1}), is(api.OK, api.ErrForm), num(1, 1), is(api.OK, api.OK), num(1, 0), is(api.ErrShort, api.ErrShort))
}

func TestNilTaker(t *testing.T) {
	run(t, "nil", nil, dead(api.ErrArg)...)
	for size := -1; size <= 9; size++ {
		run(t, "nil", nil, num(size, 0), is(api.ErrArg, api.ErrArg))
	}
	run(t, "text first", nil, text(""), rest(""), is(api.ErrArg, api.ErrArg))
	run(t, "rest first", nil, rest(""), text(""), is(api.ErrArg, api.ErrArg))
}

// Rule 3: arguments are neither modified nor retained, and results are in new memory.

func TestTakeKeepsACopy(t *testing.T) {
	b := []byte("\x05\x01a\x07\x08")
	x := octet.Take(b)
	clear(b)
	run(t, "argument changed", x, num(1, 5), text("a"), rest("\x07\x08"), is(api.OK, api.OK))
}

func TestTakerLeavesItsArgument(t *testing.T) {
	const all = "\x05\x01a\x07\x08spare"
	b := []byte(all)
	x := octet.Take(b[:5])
	x.Num(1)
	x.Text()
	r := x.Rest()
	clear(r)
	_ = append(r, "after"...)
	if string(b) != all {
		t.Errorf("the argument became %q, want %q", b, all)
	}
}

func TestRestIsNewMemory(t *testing.T) {
	x := octet.Take([]byte("abc"))
	y := *x
	r := x.Rest()
	clear(r)
	if got := string(y.Rest()); got != "abc" {
		t.Errorf("a copy of the Taker took %q, want %q", got, "abc")
	}
}

func TestNumAndTextAreNewMemory(t *testing.T) {
	clear(octet.Num(258, 2))
	if got := octet.Num(258, 2); string(got) != "\x01\x02" {
		t.Errorf("Num(258, 2) = %x after its first result was changed", got)
	}
	clear(octet.Text("ab"))
	if got := octet.Text("ab"); string(got) != "\x02ab" {
		t.Errorf("Text(ab) = %q after its first result was changed", got)
	}
}

// P1.3

func TestRoundTripOfNumbers(t *testing.T) {
	for size := 1; size <= 8; size++ {
		top := full >> (64 - 8*size)
		for _, x := range []uint64{0, 1, 127, 128, 254, 255, top / 3, top/2 + 1, top - 1, top} {
			run(t, "number", octet.Take(octet.Num(x, size)), num(size, x), is(api.OK, api.OK))
		}
	}
}

func TestRoundTripOfTexts(t *testing.T) {
	for size := 0; size <= 255; size++ {
		s := strings.Repeat("\x00\xff\x80a", 64)[:size]
		run(t, "text", octet.Take(octet.Text(s)), text(s), is(api.OK, api.OK))
	}
}

func TestRoundTripOfMany(t *testing.T) {
	for seed := uint64(1); seed <= 100; seed++ {
		b, steps := many(seed)
		b = append(b, "end"...)
		run(t, "many", octet.Take(b), append(steps, is(api.OK, api.ErrForm), rest("end"), is(api.OK, api.OK))...)
	}
}

// many is numbers and texts as bytes, one behind the other, and the steps that take them.
func many(seed uint64) ([]byte, []step) {
	var b []byte
	var steps []step
	for range 30 {
		seed = seed*6364136223846793005 + 1442695040888963407
		size := int(seed>>40) % 9
		if size == 0 {
			s := strings.Repeat(string(octet.Num(seed, 8)), 32)[:seed>>48%256]
			b = append(b, octet.Text(s)...)
			steps = append(steps, text(s))
			continue
		}
		x := seed >> (64 - 8*size)
		b = append(b, octet.Num(x, size)...)
		steps = append(steps, num(size, x))
	}
	return b, steps
}
