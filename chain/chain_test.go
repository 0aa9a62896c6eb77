package chain_test

import (
	"bytes"
	"encoding/hex"
	"hash/crc32"
	"math"
	"slices"
	"strings"
	"testing"

	"jalousie/api"
	"jalousie/chain"
	"jalousie/disk"
)

// The signatures that the chapter lists: another one doesn't compile.
var (
	_ func(int) int                                              = chain.Need
	_ func(string, []int) ([][]byte, api.Errno)                  = chain.Put
	_ func(*disk.Disk, int, int, int) (string, []int, api.Errno) = chain.Get
	_ [119]byte                                                  = [chain.Long]byte{}
)

// wrong is numbers that are no long value's size, no region of a device of two, and no page of any.
func wrong() []int {
	return []int{
		-1, -2, -17, -119, -400, -999, -1 << 16, -1 << 32, math.MinInt, math.MinInt + 17,
		1000, 1001, 1024, 1 << 16, 1<<16 + 2, 1<<16 + 17, 1 << 31, 1 << 32, 1<<32 + 2, 1<<32 + 17, math.MaxInt, math.MaxInt - 118,
	}
}

// wrongSizes is sizes that no long value has.
func wrongSizes() []int {
	return slices.Concat([]int{0, 1, 2, 15, 16, 401, 402, 476, 477, 519, 520, 999}, wrong())
}

// dice produces numbers below one, which look like chance and are the same for one seed.
func dice(seed uint64) func(below int) int {
	return func(below int) int {
		seed = seed*6364136223846793005 + 1442695040888963407
		return int(seed >> 33 % uint64(below))
	}
}

// text is a value of so many bytes, of which no two parts are the same.
func text(size int) string {
	b := make([]byte, size)
	for i := range b {
		b[i] = byte(i*7 + i/119 + size)
	}
	return string(b)
}

// values is values of each size that a long one has, and of bytes that might be taken for something else.
func values() []string {
	var out []string
	for size := 17; size <= 400; size++ {
		out = append(out, text(size))
	}
	for _, size := range []int{17, 118, 119, 120, 238, 239, 357, 358, 400} {
		for _, s := range []string{"\x00", "\xff", "\x00\x02", "\x03\xe7", "\xc3\xa9"} {
			out = append(out, strings.Repeat(s, size)[:size])
		}
	}
	return out
}

// places is so many pages in any order, no two of them equal.
func places(roll func(int) int, n int) []int {
	var out []int
	for len(out) < n {
		if page := 2 + roll(998); !slices.Contains(out, page) {
			out = append(out, page)
		}
	}
	return out
}

// fromHex is bytes that are written out.
func fromHex(t *testing.T, s string) []byte {
	t.Helper()
	b, err := hex.DecodeString(strings.ReplaceAll(s, " ", ""))
	if err != nil {
		t.Fatal(err)
	}
	return b
}

// summed is the page of 124 bytes, behind their sum.
func summed(body []byte) []byte {
	sum := crc32.ChecksumIEEE(body)
	return append([]byte{byte(sum >> 24), byte(sum >> 16), byte(sum >> 8), byte(sum)}, body...)
}

// resummed is a page with the right sum, whatever is behind it.
func resummed(page []byte) []byte { return summed(page[4:]) }

// missummed is a page with a wrong sum.
func missummed(page []byte) []byte {
	return append([]byte{page[0] + 1}, page[1:]...)
}

// page is the page of a kind and cells that have room.
func page(kind byte, l ...string) []byte {
	slots, tail := []byte{}, ""
	for _, c := range l {
		tail = c + tail
		slots = append(slots, byte(128-len(tail)))
	}
	zeros := make([]byte, 122-len(slots)-len(tail))
	return summed(slices.Concat([]byte{kind, byte(len(l))}, slots, zeros, []byte(tail)))
}

// cell is the cell of a part, whatever it is.
func cell(next int, part string) string {
	return string([]byte{byte(next / 256), byte(next % 256)}) + part
}

// part is the page of a part that has room.
func part(next int, s string) []byte { return page(3, cell(next, s)) }

// The chain, done as the chapter says it.

// plainParts is a value's parts.
func plainParts(value string) []string {
	var out []string
	for len(value) > 119 {
		out = append(out, value[:119])
		value = value[119:]
	}
	return append(out, value)
}

// plainNeed is the number of parts.
func plainNeed(size int) int {
	if size < 17 || size > 400 {
		return 0
	}
	return len(plainParts(text(size)))
}

// plainPut is the pages of a value that may be put at these places.
func plainPut(value string, at []int) [][]byte {
	var out [][]byte
	parts := plainParts(value)
	for i, s := range parts {
		if i == len(parts)-1 {
			out = append(out, part(0, s))
		} else {
			out = append(out, part(at[i+1], s))
		}
	}
	return out
}

// plainMay tells whether a value may be put at places.
func plainMay(value string, at []int) bool {
	seen := map[int]int{}
	for _, p := range at {
		seen[p]++
		if p < 2 || p > 999 || seen[p] > 1 {
			return false
		}
	}
	return len(value) >= 17 && len(value) <= 400 && len(at) == plainNeed(len(value))
}

// plainCell is the one cell of a page of the kind 3.
func plainCell(b []byte) (string, api.Errno) {
	if !bytes.Equal(resummed(b), b) {
		return "", api.ErrSum
	}
	if b[4] != 3 || b[5] != 1 || b[6] < 7 || b[6] > 128 || !bytes.Equal(page(3, string(b[b[6]:])), b) {
		return "", api.ErrForm
	}
	return string(b[b[6]:]), api.OK
}

// plainGet is what Get tells of a region that has these pages.
func plainGet(region [][]byte, first, size int) (string, []int, api.Errno) {
	if size < 17 || size > 400 {
		return "", nil, api.ErrArg
	}
	value, at, now := "", []int{}, first
	for k := plainNeed(size); k > 0; k-- {
		if now < 0 || now >= len(region) {
			return "", nil, api.ErrRange
		}
		c, e := plainCell(region[now])
		if e != api.OK {
			return "", nil, e
		}
		at = append(at, now)
		want := 119
		if k == 1 {
			want = size - len(value)
		}
		if len(c) != 2+want {
			return "", nil, api.ErrForm
		}
		value, now = value+c[2:], int(c[0])*256+int(c[1])
		if k == 1 && now != 0 || k > 1 && (now < 2 || now > 999 || slices.Contains(at, now)) {
			return "", nil, api.ErrForm
		}
	}
	return value, at, api.OK
}

// What the tests hold.

// made is a new device.
func made(t *testing.T, sizes ...int) *disk.Disk {
	t.Helper()
	d, e := disk.New(sizes)
	if e != api.OK {
		t.Fatalf("New(%v) = %d", sizes, e)
	}
	return d
}

// write writes pages at places of a region.
func write(t *testing.T, d *disk.Disk, region int, at []int, pages [][]byte) {
	t.Helper()
	for i, b := range pages {
		if e := d.Write(region, at[i], b); e != api.OK {
			t.Fatalf("Write(%d, %d) = %d", region, at[i], e)
		}
	}
}

// stored is a device of one region of 1000 pages, with pages at places.
func stored(t *testing.T, at []int, pages ...[]byte) *disk.Disk {
	t.Helper()
	d := made(t, 1000)
	write(t, d, 0, at, pages)
	return d
}

// pages is what a region holds.
func pages(t *testing.T, d *disk.Disk, region int) [][]byte {
	t.Helper()
	var out [][]byte
	for i := range d.Len(region) {
		b, e := d.Read(region, i)
		if e != api.OK {
			t.Fatalf("Read(%d, %d) = %d", region, i, e)
		}
		out = append(out, b)
	}
	return out
}

// puts is the pages of a value that may be put there.
func puts(t *testing.T, value string, at []int) [][]byte {
	t.Helper()
	l, e := chain.Put(value, at)
	if want := plainPut(value, at); e != api.OK || !slices.EqualFunc(l, want, bytes.Equal) {
		t.Errorf("Put(%d bytes, %v) = %x, %d, want %x", len(value), at, l, e, want)
	}
	return l
}

// notPut holds that Put has ErrArg, and nothing beside it.
func notPut(t *testing.T, value string, at []int) {
	t.Helper()
	if l, e := chain.Put(value, at); e != api.ErrArg || len(l) != 0 {
		t.Errorf("Put(%d bytes, %v) = %x, %d, want ErrArg", len(value), at, l, e)
	}
}

// gets holds what Get tells of a value that is stored.
func gets(t *testing.T, d *disk.Disk, region int, at []int, value string) {
	t.Helper()
	if s, l, e := chain.Get(d, region, at[0], len(value)); e != api.OK || s != value || !slices.Equal(l, at) {
		t.Errorf("Get(%d, %d, %d) = %x, %v, %d, want %x, %v", region, at[0], len(value), s, l, e, value, at)
	}
}

// refused holds that Get has an error, and nothing beside it.
func refused(t *testing.T, d *disk.Disk, region, first, size int, want api.Errno) {
	t.Helper()
	if s, l, e := chain.Get(d, region, first, size); e != want || s != "" || len(l) != 0 {
		t.Errorf("Get(%d, %d, %d) = %x, %v, %d, want error %d", region, first, size, s, l, e, want)
	}
}

// judged holds that Get tells what the chapter says of a region that has these pages.
func judged(t *testing.T, d *disk.Disk, region int, content [][]byte, first, size int) api.Errno {
	t.Helper()
	value, at, e := plainGet(content, first, size)
	if e == api.OK {
		gets(t, d, region, at, value)
	} else {
		refused(t, d, region, first, size, e)
	}
	return e
}

// P9.1

func TestExample(t *testing.T) {
	if a, b := chain.Need(119), chain.Need(120); a != 1 || b != 2 {
		t.Errorf("Need of 119 is %d, of 120 is %d", a, b)
	}
}

func TestNeedKnown(t *testing.T) {
	for _, x := range []struct{ size, want int }{
		{-400, 0}, {-119, 0}, {-17, 0}, {-1, 0}, {0, 0}, {1, 0}, {15, 0}, {16, 0}, {17, 1}, {18, 1}, {118, 1}, {119, 1}, {120, 2}, {121, 2}, {237, 2}, {238, 2},
		{239, 3}, {240, 3}, {356, 3}, {357, 3}, {358, 4}, {359, 4}, {399, 4}, {400, 4}, {401, 0}, {402, 0}, {476, 0}, {477, 0}, {1 << 16, 0}, {math.MaxInt, 0}, {math.MinInt, 0},
	} {
		if got := chain.Need(x.size); got != x.want {
			t.Errorf("Need(%d) = %d, want %d", x.size, got, x.want)
		}
	}
	for _, size := range wrongSizes() {
		if got := chain.Need(size); got != 0 {
			t.Errorf("Need(%d) = %d, want 0", size, got)
		}
	}
}

func TestNeed(t *testing.T) {
	for size := -70000; size < 70000; size++ {
		if got, want := chain.Need(size), plainNeed(size); got != want {
			t.Errorf("Need(%d) = %d, want %d", size, got, want)
		}
	}
}

// TestPutKnown has pages that are written out, but for the sum.
func TestPutKnown(t *testing.T) {
	a, b, c, d := strings.Repeat("61", 119), strings.Repeat("62", 119), strings.Repeat("63", 119), strings.Repeat("64", 43)
	for _, x := range []struct {
		value string
		at    []int
		want  []string // behind the sum
	}{
		{strings.Repeat("a", 17), []int{2}, []string{"03 01 6d" + strings.Repeat("00", 102) + "00 00" + a[:34]}},
		{strings.Repeat("a", 118), []int{7}, []string{"03 01 08 00 00 00" + a[:236]}},
		{strings.Repeat("a", 119), []int{999}, []string{"03 01 07 00 00" + a}},
		{strings.Repeat("a", 119) + "b", []int{2, 999}, []string{"03 01 07 03 e7" + a, "03 01 7d" + strings.Repeat("00", 118) + "00 00 62"}},
		{strings.Repeat("a", 119) + "b", []int{999, 2}, []string{"03 01 07 00 02" + a, "03 01 7d" + strings.Repeat("00", 118) + "00 00 62"}},
		{strings.Repeat("a", 119) + strings.Repeat("b", 119), []int{256, 255}, []string{"03 01 07 00 ff" + a, "03 01 07 00 00" + b}},
		{strings.Repeat("a", 119) + strings.Repeat("b", 119) + "c", []int{9, 256, 3}, []string{"03 01 07 01 00" + a, "03 01 07 00 03" + b, "03 01 7d" + strings.Repeat("00", 118) + "00 00 63"}},
		{strings.Repeat("a", 119) + strings.Repeat("b", 119) + strings.Repeat("c", 119), []int{2, 3, 4}, []string{"03 01 07 00 03" + a, "03 01 07 00 04" + b, "03 01 07 00 00" + c}},
		{strings.Repeat("a", 119) + strings.Repeat("b", 119) + strings.Repeat("c", 119) + strings.Repeat("d", 43), []int{998, 5, 772, 4}, []string{"03 01 07 00 05" + a, "03 01 07 03 04" + b, "03 01 07 00 04" + c, "03 01 53" + strings.Repeat("00", 76) + "00 00" + d}},
	} {
		var want [][]byte
		for _, s := range x.want {
			want = append(want, summed(fromHex(t, s)))
		}
		if got, e := chain.Put(x.value, x.at); e != api.OK || !slices.EqualFunc(got, want, bytes.Equal) {
			t.Errorf("Put(%d bytes, %v) = %x, %d, want %x", len(x.value), x.at, got, e, want)
		}
		gets(t, stored(t, x.at, want...), 0, x.at, x.value)
	}
}

func TestPut(t *testing.T) {
	roll := dice(1)
	for _, v := range values() {
		n := plainNeed(len(v))
		up := []int{2, 3, 4, 5}[:n]
		down := []int{999, 998, 997, 996}[:n]
		for _, at := range [][]int{up, down, places(roll, n), places(roll, n)} {
			puts(t, v, at)
		}
	}
}

func TestPutOfNoLongValue(t *testing.T) {
	for _, size := range []int{0, 1, 2, 15, 16, 401, 402, 476, 477, 595, 999, 1 << 16, 1<<16 + 17, 1 << 20} {
		for n := range 7 {
			notPut(t, text(size), []int{2, 3, 4, 5, 6, 7}[:n])
		}
		notPut(t, text(size), nil)
	}
	for size := range 1200 {
		if size < 17 || size > 400 {
			for n := range (size+118)/119 + 2 {
				notPut(t, text(size), places(dice(uint64(size)), n))
			}
		}
	}
}

func TestPutOfTooFewAndTooManyPlaces(t *testing.T) {
	for size := 17; size <= 400; size++ {
		v := text(size)
		notPut(t, v, nil)
		for n := range 8 {
			if at := []int{9, 2, 999, 4, 500, 6, 8, 7}[:n]; n != plainNeed(size) {
				notPut(t, v, at)
			} else {
				puts(t, v, at)
			}
		}
	}
	all := places(dice(2), 998)
	notPut(t, text(400), all)
	notPut(t, text(17), all)
	notPut(t, text(17), make([]int, 1<<16))
}

// TestPutOfEachPlace has each page at each place of a value.
func TestPutOfEachPlace(t *testing.T) {
	all := wrong()
	for page := -3; page < 1100; page++ {
		all = append(all, page)
	}
	for _, size := range []int{17, 119, 120, 239, 400} {
		v := text(size)
		for i := range plainNeed(size) {
			for _, p := range all {
				at := []int{2000, 2001, 2002, 2003}[:plainNeed(size)]
				for k := range at { // some that are right, and not this one
					at[k] = 2 + (p%900+900+k+1)%900
				}
				at[i] = p
				if 2 <= p && p <= 999 {
					puts(t, v, at)
				} else {
					notPut(t, v, at)
				}
			}
		}
	}
}

func TestPutOfEqualPlaces(t *testing.T) {
	for _, size := range []int{120, 238, 239, 357, 358, 400} {
		v, n := text(size), plainNeed(size)
		for i := range n {
			for k := range i {
				at := []int{5, 2, 999, 3}[:n]
				at[i] = at[k]
				notPut(t, v, at)
			}
		}
		for _, p := range []int{0, 1, 2, 500, 999, 1000} {
			notPut(t, v, slices.Repeat([]int{p}, n))
		}
	}
	notPut(t, text(400), []int{2, 3, 2, 3})
	notPut(t, text(400), []int{2, 3, 3, 2})
}

// TestPutOfWildPlaces has few pages, so that many are equal or no place.
func TestPutOfWildPlaces(t *testing.T) {
	roll, may := dice(3), 0
	for range 20000 {
		v := text([]int{16, 17, 119, 120, 238, 239, 357, 358, 400, 401}[roll(10)])
		at := make([]int, max(0, plainNeed(len(v))+[]int{0, 0, 0, 1, -1}[roll(5)]))
		for i := range at {
			at[i] = []int{1, 2, 3, 4, 5, 6, 997, 998, 999, 1000}[min(9, roll(60))]
			if roll(3) > 0 {
				at[i] = 2 + roll(998)
			}
		}
		if plainMay(v, at) {
			may++
			puts(t, v, at)
		} else {
			notPut(t, v, at)
		}
	}
	if may < 2000 || may > 18000 {
		t.Errorf("%d of them may be put", may)
	}
}

// P9.2

func TestGet(t *testing.T) {
	roll := dice(4)
	for _, v := range values() {
		n := plainNeed(len(v))
		for _, at := range [][]int{[]int{2, 3, 4, 5}[:n], []int{999, 998, 997, 996}[:n], places(roll, n)} {
			gets(t, stored(t, at, plainPut(v, at)...), 0, at, v)
		}
	}
}

// TestGetOfNoLongSize holds that the size is judged ahead of all else.
func TestGetOfNoLongSize(t *testing.T) {
	at := []int{5, 9, 7, 3}
	d := stored(t, at, plainPut(text(400), at)...)
	stopped := made(t, 8)
	stopped.Stop(0, 0)
	stopped.Sync(0)
	for _, size := range wrongSizes() {
		refused(t, d, 0, 5, size, api.ErrArg)
		refused(t, d, 0, 3, size, api.ErrArg)
		refused(t, d, 0, 0, size, api.ErrArg)
		refused(t, d, 0, 1000, size, api.ErrArg)
		refused(t, d, 1, 5, size, api.ErrArg)
		refused(t, d, -1, -1, size, api.ErrArg)
		refused(t, stopped, 0, 2, size, api.ErrArg)
		refused(t, nil, 0, 2, size, api.ErrArg)
	}
	for size := -2; size < 1200; size++ { // pages of values that are too short or too long
		if size < 17 || size > 400 {
			short := part(0, text(max(0, min(119, size))))
			refused(t, stored(t, []int{2}, short), 0, 2, size, api.ErrArg)
		}
	}
}

func TestGetOfWrongRegionsAndPages(t *testing.T) {
	d := made(t, 1000, 6)
	write(t, d, 0, []int{5}, plainPut(text(17), []int{5}))
	write(t, d, 1, []int{5}, plainPut(text(17), []int{5}))
	for _, r := range append(wrong(), 2, 3, 63, 64) {
		refused(t, d, r, 5, 17, api.ErrRange)
		refused(t, d, r, -1, 400, api.ErrRange)
	}
	for _, p := range wrong() {
		refused(t, d, 0, p, 17, api.ErrRange)
		refused(t, d, 1, p, 400, api.ErrRange)
	}
	for p := 6; p < 1002; p++ {
		refused(t, d, 1, p, 17, api.ErrRange)
	}
	gets(t, d, 0, []int{5}, text(17))
	gets(t, d, 1, []int{5}, text(17))
}

// TestGetOfNextPagesThatThereAreNot has chains that go on behind their region's end.
func TestGetOfNextPagesThatThereAreNot(t *testing.T) {
	v := text(400)
	for i := 1; i < 4; i++ {
		for _, next := range []int{8, 9, 255, 256, 998, 999} {
			at := []int{2, 3, 4, 5}
			at[i] = next
			d := made(t, 8)
			write(t, d, 0, at[:i], plainPut(v, at)[:i])
			refused(t, d, 0, 2, 400, api.ErrRange)
		}
		at := []int{2, 3, 4, 5}
		at[i] = 7
		d := made(t, 8)
		write(t, d, 0, at, plainPut(v, at))
		gets(t, d, 0, at, v)
	}
}

func TestGetOfNoDevice(t *testing.T) {
	for _, size := range []int{17, 119, 120, 400} {
		refused(t, nil, 0, 2, size, api.ErrArg)
		refused(t, nil, -1, -1, size, api.ErrArg)
		refused(t, &disk.Disk{}, 0, 2, size, api.ErrRange)
	}
}

func TestGetOfARegionThatIsDown(t *testing.T) {
	at, v := []int{5, 9, 7, 3}, text(400)
	d := made(t, 10, 10)
	write(t, d, 0, at, plainPut(v, at))
	write(t, d, 1, at, plainPut(v, at))
	d.Stop(0, 1)
	d.Sync(0)
	gets(t, d, 0, at, v)
	d.Sync(0)
	refused(t, d, 0, 5, 400, api.ErrDown)
	refused(t, d, 0, 2, 17, api.ErrDown)
	refused(t, d, 0, 1000, 17, api.ErrDown)
	refused(t, d, 0, 5, 401, api.ErrArg)
	refused(t, d, 2, 5, 400, api.ErrRange)
	gets(t, d, 1, at, v)
	d.Crash(nil)
	gets(t, d, 0, at, v)
	refused(t, d, 1, 5, 400, api.ErrSum) // what was loose there is gone
}

// TestGetOfLoosePages holds that a page is read as it was written last.
func TestGetOfLoosePages(t *testing.T) {
	at, v, w := []int{5, 9, 7, 3}, text(400), strings.Repeat("w", 400)
	d := stored(t, at, plainPut(v, at)...)
	d.Sync(0)
	write(t, d, 0, at, plainPut(w, at))
	gets(t, d, 0, at, w)
	d.Crash([]string{"\x0a"}) // the second and the fourth page stay
	gets(t, d, 0, at, v[:119]+w[119:238]+v[238:357]+w[357:])
}

func TestGetOfPagesThatWereNeverWritten(t *testing.T) {
	d := made(t, 20)
	for p := range 20 {
		for _, size := range []int{17, 119, 120, 400} {
			refused(t, d, 0, p, size, api.ErrSum)
		}
	}
	at, v := []int{5, 9, 7, 3}, text(400)
	for i := range at {
		d := stored(t, at, plainPut(v, at)...)
		if e := d.Write(0, at[i], make([]byte, 128)); e != api.OK {
			t.Fatal(e)
		}
		refused(t, d, 0, 5, 400, api.ErrSum)
	}
}

// TestGetOfAWrongSum changes each bit of each page of a value.
func TestGetOfAWrongSum(t *testing.T) {
	at, v := []int{5, 9, 7, 3}, text(400)
	d := stored(t, at, plainPut(v, at)...)
	for i, b := range plainPut(v, at) {
		for bit := range 8 * 128 {
			b[bit/8] ^= 1 << (bit % 8)
			write(t, d, 0, at[i:], [][]byte{b})
			refused(t, d, 0, 5, 400, api.ErrSum)
			b[bit/8] ^= 1 << (bit % 8)
		}
		write(t, d, 0, at[i:], [][]byte{b})
		gets(t, d, 0, at, v)
	}
}

// with is a device with a value of 400 bytes at 5, 9, 7 and 3, one page of which is another one.
func with(t *testing.T, i int, b []byte) *disk.Disk {
	t.Helper()
	at := []int{5, 9, 7, 3}
	l := plainPut(text(400), at)
	l[i] = b
	return stored(t, at, l...)
}

// cells is the cells of a value of 400 bytes at 5, 9, 7 and 3.
func cells() []string {
	l := plainParts(text(400))
	return []string{cell(9, l[0]), cell(7, l[1]), cell(3, l[2]), cell(0, l[3])}
}

func TestGetOfEachKind(t *testing.T) {
	for i, c := range cells() {
		for kind := range 256 {
			if kind == 3 {
				gets(t, with(t, i, page(3, c)), 0, []int{5, 9, 7, 3}, text(400))
			} else {
				refused(t, with(t, i, page(byte(kind), c)), 0, 5, 400, api.ErrForm)
			}
		}
	}
}

// TestGetOfOtherCells has none, or more than one.
func TestGetOfOtherCells(t *testing.T) {
	for i, c := range cells() {
		lists := [][]string{nil, {"", ""}, slices.Repeat([]string{""}, 122), {c, ""}, {"", c}, {c, c}, {c, "", ""}, {c, "x"}, {"x", c}}
		for cut := range len(c) {
			lists = append(lists, []string{c[:cut], c[cut:]}, []string{c[cut:], c[:cut]}, []string{c[:cut], c[cut : len(c)-1]}, []string{c[:len(c)-1], c[cut:]})
		}
		for _, l := range lists {
			if len(strings.Join(l, ""))+len(l) <= 122 {
				refused(t, with(t, i, page(3, l...)), 0, 5, 400, api.ErrForm)
			}
		}
	}
	short := text(17)
	for _, l := range [][]string{{}, {""}, {cell(0, short), ""}, {"", cell(0, short)}, {cell(0, short), cell(0, short)}, {cell(0, ""), short}, {short, cell(0, "")}} {
		refused(t, stored(t, []int{2}, page(3, l...)), 0, 2, 17, api.ErrForm)
	}
}

// TestGetOfCellsOfEachLength has cells with too few and too many bytes.
func TestGetOfCellsOfEachLength(t *testing.T) {
	for i, c := range cells() {
		for size := range 122 {
			b := page(3, (c + text(121))[:size])
			if size == len(c) {
				gets(t, with(t, i, b), 0, []int{5, 9, 7, 3}, text(400))
			} else {
				refused(t, with(t, i, b), 0, 5, 400, api.ErrForm)
			}
		}
	}
	for _, size := range []int{17, 118, 119} {
		for other := range 120 {
			d := stored(t, []int{2}, part(0, text(other)))
			if other == size {
				gets(t, d, 0, []int{2}, text(size))
			} else {
				refused(t, d, 0, 2, size, api.ErrForm)
			}
		}
		for _, c := range []string{"", "\x00"} {
			refused(t, stored(t, []int{2}, page(3, c)), 0, 2, size, api.ErrForm)
		}
	}
}

// TestGetOfOtherSizes asks for each size of values that have another one.
func TestGetOfOtherSizes(t *testing.T) {
	for _, size := range []int{17, 18, 118, 119, 120, 121, 237, 238, 239, 240, 356, 357, 358, 359, 399, 400} {
		at := []int{5, 9, 7, 3}[:plainNeed(size)]
		d := stored(t, at, plainPut(text(size), at)...)
		for other := 17; other <= 400; other++ {
			if other == size {
				gets(t, d, 0, at, text(size))
			} else {
				refused(t, d, 0, 5, other, api.ErrForm)
			}
		}
	}
}

// TestGetFromTheMiddle begins at a later page of a value.
func TestGetFromTheMiddle(t *testing.T) {
	at, v := []int{5, 9, 7, 3}, text(400)
	d := stored(t, at, plainPut(v, at)...)
	for i := range at {
		gets(t, d, 0, at[i:], v[119*i:])
		refused(t, d, 0, at[i], 399-119*i, api.ErrForm)
		if i > 0 {
			refused(t, d, 0, at[i], 400, api.ErrForm)
		}
	}
}

// TestGetOfEachNextPage has each number of a next page in each page but the last one.
func TestGetOfEachNextPage(t *testing.T) {
	at, v := []int{5, 9, 7, 3}, text(400)
	l := plainParts(v)
	d := stored(t, at, plainPut(v, at)...)
	content := pages(t, d, 0)
	for i := range 3 {
		for next := range 1 << 16 {
			b := part(next, l[i])
			write(t, d, 0, at[i:], [][]byte{b})
			content[at[i]] = b
			e := judged(t, d, 0, content, 5, 400)
			want := api.ErrForm
			if next == at[i+1] {
				want = api.OK
			} else if 2 <= next && next <= 999 && !slices.Contains(at, next) {
				want = api.ErrSum // never written
			}
			if e != want {
				t.Fatalf("page %d of %d names %d: the test's own Get has %d, want %d", i, len(at), next, e, want)
			}
		}
		content[at[i]] = plainPut(v, at)[i]
		write(t, d, 0, at[i:], content[at[i]:at[i]+1])
	}
}

// TestGetOfALastPageThatNamesANext has each number of one.
func TestGetOfALastPageThatNamesANext(t *testing.T) {
	for _, size := range []int{17, 119, 120, 400} {
		v := text(size)
		at := []int{5, 9, 7, 3}[:plainNeed(size)]
		last := len(at) - 1
		d := stored(t, at, plainPut(v, at)...)
		for next := 1; next < 1<<16; next++ {
			write(t, d, 0, at[last:], [][]byte{part(next, plainParts(v)[last])})
			refused(t, d, 0, 5, size, api.ErrForm)
		}
		write(t, d, 0, at[last:], [][]byte{part(0, plainParts(v)[last])})
		gets(t, d, 0, at, v)
	}
	// A next page that holds more of it is one too many.
	whole := []int{5, 9}
	d := stored(t, whole, plainPut(text(138), whole)...)
	gets(t, d, 0, whole, text(138))
	refused(t, d, 0, 5, 119, api.ErrForm)
}

// TestGetOfRings has pages that name themselves, or ones that were read already.
func TestGetOfRings(t *testing.T) {
	s := text(119)
	for _, x := range []struct{ first, second, third int }{
		{5, 0, 0}, {9, 9, 0}, {9, 5, 0}, {9, 7, 5}, {9, 7, 9}, {9, 7, 7},
	} {
		d := stored(t, []int{5, 9, 7, 3}, part(x.first, s), part(x.second, s), part(x.third, s), part(0, text(43)))
		refused(t, d, 0, 5, 400, api.ErrForm)
	}
	for _, size := range []int{120, 238, 239, 357, 358, 400} {
		refused(t, stored(t, []int{5}, part(5, s)), 0, 5, size, api.ErrForm)
		refused(t, stored(t, []int{2, 999}, part(999, s), part(2, s)), 0, 999, size, api.ErrForm)
	}
	at := []int{5, 9, 7, 3} // all the same but for their next pages
	v := strings.Repeat("v", 400)
	gets(t, stored(t, at, plainPut(v, at)...), 0, at, v)
}

// TestGetFromMetaPages holds that the first page may be any that the region has; only a next one may not be a meta page.
func TestGetFromMetaPages(t *testing.T) {
	s := text(119)
	for _, first := range []int{0, 1} {
		at := []int{first, 3}
		gets(t, stored(t, at, part(3, s), part(0, s)), 0, at, s+s)
		gets(t, stored(t, at[:1], part(0, s)), 0, at[:1], s)
		refused(t, stored(t, []int{5, first}, part(first, s), part(0, s)), 0, 5, 238, api.ErrForm)
		refused(t, stored(t, at[:1], part(first, s)), 0, first, 238, api.ErrForm)
	}
}

// TestGetOfEachChangedByte has pages of which one byte is another one, behind a right sum.
func TestGetOfEachChangedByte(t *testing.T) {
	for _, size := range []int{17, 119, 120, 358} {
		at, v := []int{5, 9, 7, 3}[:plainNeed(size)], text(size)
		d := made(t, 12)
		write(t, d, 0, at, plainPut(v, at))
		content := pages(t, d, 0)
		for _, p := range []int{at[0], at[len(at)-1]} {
			was := content[p]
			for i := 4; i < 128; i++ {
				for c := range 256 {
					b := bytes.Clone(was)
					b[i] = byte(c)
					content[p] = resummed(b)
					write(t, d, 0, []int{p}, content[p:p+1])
					judged(t, d, 0, content, 5, size)
				}
			}
			content[p] = was
			write(t, d, 0, []int{p}, [][]byte{was})
		}
	}
}

// TestOrderOfErrors has values with several faults.
func TestOrderOfErrors(t *testing.T) {
	s := text(119)
	notPage, otherKind := missummed(part(9, s)), page(1, cell(9, s))
	for _, x := range []struct {
		why   string
		first []byte
		want  api.Errno
	}{
		{"a wrong sum, kind, length and next page", missummed(page(1, "x")), api.ErrSum},
		{"a wrong sum alone", notPage, api.ErrSum},
		{"no page of cells, though of the kind 3", resummed(slices.Concat(part(9, s)[:5], []byte{123}, part(9, s)[6:])), api.ErrForm},
		{"another kind", otherKind, api.ErrForm},
		{"a short cell", page(3, cell(9, s[1:])), api.ErrForm},
		{"no cell", page(3), api.ErrForm},
		{"a next page that the region hasn't, and a short cell", page(3, cell(12, s[1:])), api.ErrForm},
		{"a next page that no region has", part(1000, s), api.ErrForm},
		{"a next page that the region hasn't", part(12, s), api.ErrRange},
		{"a next page with a wrong sum", part(11, s), api.ErrSum},
		{"a next page of another kind", part(10, s), api.ErrForm},
		{"a next page with a wrong sum, and another kind", page(2, cell(11, s)), api.ErrForm},
		{"a next page that is a meta page with a wrong sum", part(0, s), api.ErrForm},
		{"itself, with a wrong sum", missummed(part(5, s)), api.ErrSum},
	} {
		d := made(t, 12)
		write(t, d, 0, []int{5, 11, 10}, [][]byte{x.first, notPage, otherKind})
		if v, l, e := chain.Get(d, 0, 5, 400); e != x.want || v != "" || len(l) != 0 {
			t.Errorf("Get of %s = %x, %v, %d, want error %d", x.why, v, l, e, x.want)
		}
		refused(t, d, 0, 5, 401, api.ErrArg)
		refused(t, d, 0, 12, 16, api.ErrArg)
		refused(t, d, 1, 12, 400, api.ErrRange)
	}
}

// TestGetReadsJustItsPages has no other page of a region that could be read as a part, and none behind the last one that it tells.
func TestGetReadsJustItsPages(t *testing.T) {
	for _, v := range values() {
		n := plainNeed(len(v))
		for _, at := range [][]int{[]int{2, 3, 4, 5}[:n], []int{31, 2, 24, 11}[:n], []int{4, 17, 3, 12}[:n]} {
			d := made(t, slices.Max(at)+1)
			for p := range d.Len(0) {
				write(t, d, 0, []int{p}, [][]byte{missummed(part(2, text(119)))})
			}
			write(t, d, 0, at, plainPut(v, at))
			gets(t, d, 0, at, v)
		}
	}
}

// TestGetWritesNothing holds what Get leaves behind on its device.
func TestGetWritesNothing(t *testing.T) {
	at, v := []int{5, 9, 7, 3}, text(400)
	d := stored(t, at, plainPut(v, at)...)
	was := pages(t, d, 0)
	d.Stop(0, 1)
	for range 3 {
		gets(t, d, 0, at, v)
		refused(t, d, 0, 5, 399, api.ErrForm)
		refused(t, d, 0, 2, 400, api.ErrSum)
	}
	if !slices.EqualFunc(pages(t, d, 0), was, bytes.Equal) || !slices.Equal(d.Loose(0), at) || d.Down(0) {
		t.Errorf("Get changed its device: loose are %v", d.Loose(0))
	}
	if a, b := d.Sync(0), d.Sync(0); a != api.OK || b != api.ErrDown {
		t.Errorf("Get counted ahead of the stop: Sync came to %d, then %d", a, b)
	}
}

// TestGetOfWildRegions has a few pages with values in any order, some of them changed.
func TestGetOfWildRegions(t *testing.T) {
	roll := dice(6)
	met := map[api.Errno]int{}
	for range 2000 {
		d := made(t, 12)
		sizes := wild(t, roll, d)
		content := pages(t, d, 0)
		for first := -1; first < 13; first++ {
			for _, size := range sizes {
				met[judged(t, d, 0, content, first, size)]++
			}
		}
	}
	for e, least := range map[api.Errno]int{api.OK: 2000, api.ErrSum: 10000, api.ErrForm: 10000, api.ErrRange: 10000, api.ErrArg: 50} {
		if met[e] < least {
			t.Errorf("error %d came only %d times", e, met[e])
		}
	}
}

// wild writes values and changed pages of them to a region of twelve pages, and tells sizes to ask for.
func wild(t *testing.T, roll func(int) int, d *disk.Disk) []int {
	t.Helper()
	sizes := []int{17, 16 + roll(386)}
	for range 1 + roll(3) {
		v := text(17 + roll(384))
		at := []int{2, 3, 4, 5, 6, 7, 8, 9, 10, 11}
		for i := range at {
			k := i + roll(len(at)-i)
			at[i], at[k] = at[k], at[i]
		}
		write(t, d, 0, at[:plainNeed(len(v))], plainPut(v, at))
		sizes = append(sizes, len(v))
		if roll(2) == 0 {
			write(t, d, 0, at[roll(4):], [][]byte{changed(roll, v, at)})
		}
	}
	return sizes
}

// changed is a page of a value with something wrong with it, or with another next page.
func changed(roll func(int) int, value string, at []int) []byte {
	s := plainParts(value)[roll(plainNeed(len(value)))]
	switch roll(6) {
	case 0:
		return missummed(part(at[1], s))
	case 1:
		return page(byte(roll(256)), cell(at[1], s))
	case 2:
		return page(3, cell(at[1], s[1:]), "")
	case 3:
		return part(at[1], s[:roll(len(s))])
	case 4:
		return part([]int{0, 1, 12, 999, 1000, 1 << 15}[roll(6)], s)
	default:
		return part(roll(14), s)
	}
}

// Rule 3: arguments are neither modified nor retained, and results are in new memory.

func TestPutLeavesItsArguments(t *testing.T) {
	roll := dice(7)
	for _, v := range values() {
		n := plainNeed(len(v))
		whole := append(places(roll, n), -7, -8, -9)
		was := slices.Clone(whole)
		got, e := chain.Put(v, whole[:n])
		if e != api.OK || !slices.Equal(whole, was) {
			t.Errorf("Put: %d, and the places became %v, want %v", e, whole, was)
		}
		clear(whole)
		if want := plainPut(v, was[:n]); !slices.EqualFunc(got, want, bytes.Equal) {
			t.Errorf("Put of %d bytes became %x when its places were changed, want %x", len(v), got, want)
		}
		for _, at := range [][]int{[]int{3, 2, 2, 1000, 5}[:n+1], []int{1000, 2, 2, 1}[:n], []int{0, 1, 0, 1}[:n]} {
			was := slices.Clone(at)
			notPut(t, v, at)
			if !slices.Equal(at, was) {
				t.Errorf("Put made its places %v, want %v", at, was)
			}
		}
	}
}

// TestPagesAreTheirOwn changes each page, and what is behind it.
func TestPagesAreTheirOwn(t *testing.T) {
	at, v := []int{5, 9, 7, 3}, text(400)
	for i := range at {
		got, other, want := puts(t, v, at), puts(t, v, at), plainPut(v, at)
		for k := range got[i] {
			got[i][k], want[i][k] = 'y', 'y'
		}
		clear(got[i][len(got[i]):cap(got[i])])
		longer := append(got[i], "after"...)
		if !slices.EqualFunc(got, want, bytes.Equal) || !slices.EqualFunc(other, plainPut(v, at), bytes.Equal) || string(longer) != string(want[i])+"after" {
			t.Errorf("what was written to page %d made them %x, others %x", i, got, other)
		}
	}
	got, other := puts(t, v, at), puts(t, v, at)
	clear(got)
	_ = append(got[:0], []byte("after"))
	if !slices.EqualFunc(other, plainPut(v, at), bytes.Equal) {
		t.Errorf("Put became %x when another answer was changed", other)
	}
	puts(t, v, at)
}

func TestPlacesAreTheirOwn(t *testing.T) {
	at, v := []int{5, 9, 7, 3}, text(400)
	d := stored(t, at, plainPut(v, at)...)
	a, l, _ := chain.Get(d, 0, 5, 400)
	_, m, _ := chain.Get(d, 0, 5, 400)
	clear(l)
	_ = append(l[:0], 8, 8, 8, 8, 8)
	if !slices.Equal(m, at) {
		t.Errorf("the places became %v when another answer was changed, want %v", m, at)
	}
	gets(t, d, 0, at, v)
	write(t, d, 0, at, plainPut(strings.Repeat("w", 400), at))
	if a != v {
		t.Errorf("the value became %x when its pages were written over", a)
	}
}

// TestAnswersHangOnArgumentsAlone asks in other orders, with calls that fail between.
func TestAnswersHangOnArgumentsAlone(t *testing.T) {
	at, v := []int{5, 9, 7, 3}, text(400)
	d := stored(t, at, plainPut(v, at)...)
	for _, other := range slices.Concat(values()[:40], values()[380:]) {
		puts(t, other, []int{6, 8, 10, 11}[:plainNeed(len(other))])
		notPut(t, other, []int{5, 5})
		refused(t, d, 0, 9, 400, api.ErrForm)
		gets(t, d, 0, at, v)
		gets(t, d, 0, at[2:], v[238:])
		puts(t, v, at)
	}
}

// P9.3

// TestGetOfPut stores values one beside the other, with pages of other things around them.
func TestGetOfPut(t *testing.T) {
	roll := dice(8)
	all := values()
	for len(all) > 0 {
		d := made(t, 1000, 1000)
		for p := range 1000 {
			write(t, d, 0, []int{p}, [][]byte{page(byte(p), "other")})
			write(t, d, 1, []int{p}, [][]byte{part(2+(p+1)%998, text(119))})
		}
		now := all[:min(100, len(all))]
		all = all[len(now):]
		free := places(roll, 998)
		var stood [][]int
		for _, v := range now {
			at := free[:plainNeed(len(v))]
			free = free[len(at):]
			write(t, d, 0, at, puts(t, v, at))
			stood = append(stood, at)
		}
		for i, v := range now {
			gets(t, d, 0, stood[i], v)
		}
		d.Sync(0)
		d.Crash(nil)
		for i, v := range now {
			gets(t, d, 0, stood[i], v)
			refused(t, d, 1, stood[i][0], len(v), api.ErrSum) // nothing of the other region was synced
		}
	}
}

// TestPutOfGet puts what was got where it was.
func TestPutOfGet(t *testing.T) {
	roll := dice(9)
	for _, v := range values() {
		at := places(roll, plainNeed(len(v)))
		want := plainPut(v, at)
		value, l, e := chain.Get(stored(t, at, want...), 0, at[0], len(v))
		if e != api.OK {
			t.Fatalf("Get of %d bytes at %v = %d", len(v), at, e)
		}
		if again := puts(t, value, l); !slices.EqualFunc(again, want, bytes.Equal) {
			t.Errorf("Put of what was got = %x, want %x", again, want)
		}
	}
}
