package list_test

import (
	"bytes"
	"encoding/hex"
	"hash/crc32"
	"math"
	"math/big"
	"slices"
	"strings"
	"testing"

	"jalousie/api"
	"jalousie/disk"
	"jalousie/list"
)

// The signatures that the chapter lists: another one doesn't compile.
var (
	_ func(int) int                                        = list.Need
	_ func([]int, []int) ([][]byte, api.Errno)             = list.Put
	_ func(*disk.Disk, int, int) ([]int, []int, api.Errno) = list.Get
	_ func(int, int) int                                   = list.Own
	_ [59]byte                                             = [list.Many]byte{}
)

// wrong is numbers that are no page that may be listed, no region of a device of two, and no page of any.
func wrong() []int {
	return []int{
		-1, -2, -3, -59, -118, -999, -1 << 16, -1<<16 + 2, -1 << 32, math.MinInt, math.MinInt + 2,
		1000, 1001, 1002, 1024, 1 << 16, 1<<16 + 2, 1 << 31, 1 << 32, 1<<32 + 2, math.MaxInt, math.MaxInt - 58,
	}
}

// dice produces numbers below one, which look like chance and are the same for one seed.
func dice(seed uint64) func(below int) int {
	return func(below int) int {
		seed = seed*6364136223846793005 + 1442695040888963407
		return int(seed >> 33 % uint64(below))
	}
}

// upTo is how many numbers of two bytes are gone through: all of them, or those up to a good deal above the greatest page.
func upTo(all bool) int {
	if all {
		return 1 << 16
	}
	return 1200
}

// run is so many numbers, rising by steps, from one on.
func run(from, n, step int) []int {
	var out []int
	for i := range n {
		out = append(out, from+i*step)
	}
	return out
}

// drawn is so many pages in any order, no two of them equal.
func drawn(roll func(int) int, n int) []int {
	all := run(2, 998, 1)
	for i := range n {
		k := i + roll(998-i)
		all[i], all[k] = all[k], all[i]
	}
	return all[:n]
}

// split is so many pages to be listed, rising, and so many others to put the list in, in any order.
func split(roll func(int) int, n, places int) ([]int, []int) {
	all := drawn(roll, n+places)
	l := slices.Clone(all[:n])
	slices.Sort(l)
	return l, all[n:]
}

// fromHex is bytes that are written out.
func fromHex(t *testing.T, s string) []byte {
	t.Helper()
	b, err := hex.DecodeString(strings.ReplaceAll(s, " ", ""))
	if err != nil {
		t.Fatal(err)
	}
	return b
}

// summed is the page of 124 bytes, behind their sum.
func summed(body []byte) []byte {
	sum := crc32.ChecksumIEEE(body)
	return append([]byte{byte(sum >> 24), byte(sum >> 16), byte(sum >> 8), byte(sum)}, body...)
}

// resummed is a page with the right sum, whatever is behind it.
func resummed(page []byte) []byte { return summed(page[4:]) }

// missummed is a page with a wrong sum.
func missummed(page []byte) []byte {
	return append([]byte{page[0] + 1}, page[1:]...)
}

// page is the page of a kind and cells that have room.
func page(kind byte, l ...string) []byte {
	slots, tail := []byte{}, ""
	for _, c := range l {
		tail = c + tail
		slots = append(slots, byte(128-len(tail)))
	}
	zeros := make([]byte, 122-len(slots)-len(tail))
	return summed(slices.Concat([]byte{kind, byte(len(l))}, slots, zeros, []byte(tail)))
}

// cell is numbers of two bytes each, the first of which is the next page's.
func cell(next int, l ...int) string {
	b := []byte{byte(next / 256), byte(next % 256)}
	for _, x := range l {
		b = append(b, byte(x/256), byte(x%256))
	}
	return string(b)
}

// part is the page of a part that has room.
func part(next int, l ...int) []byte { return page(4, cell(next, l...)) }

// The list, done as the chapter says it.

// plainParts is a list's parts.
func plainParts(l []int) [][]int {
	var out [][]int
	for len(l) > 59 {
		out = append(out, l[:59])
		l = l[59:]
	}
	if len(l) > 0 {
		out = append(out, l)
	}
	return out
}

// plainNeed is the number of parts.
func plainNeed(n int) int {
	k := 0
	for n > 0 {
		n -= 59
		k++
	}
	return k
}

// plainPut is the pages of a list that may be put at these places.
func plainPut(l, at []int) [][]byte {
	var out [][]byte
	parts := plainParts(l)
	for i := range at {
		next, now := 0, []int(nil)
		if i+1 < len(at) {
			next = at[i+1]
		}
		if i < len(parts) {
			now = parts[i]
		}
		out = append(out, part(next, now...))
	}
	return out
}

// plainMay tells whether a list may be put at places.
func plainMay(l, at []int) bool {
	seen := map[int]int{}
	for i, x := range l {
		if x < 2 || x > 999 || i > 0 && l[i-1] >= x {
			return false
		}
		seen[x]++
	}
	for _, p := range at {
		seen[p]++
		if p < 2 || p > 999 || seen[p] > 1 {
			return false
		}
	}
	return len(at) >= plainNeed(len(l))
}

// plainCell is the numbers of the one cell of a page of the kind 4.
func plainCell(b []byte) ([]int, api.Errno) {
	if !bytes.Equal(resummed(b), b) {
		return nil, api.ErrSum
	}
	if b[4] != 4 || b[5] != 1 || b[6] < 7 || b[6] > 126 || b[6]%2 != 0 || !bytes.Equal(page(4, string(b[b[6]:])), b) {
		return nil, api.ErrForm
	}
	var out []int
	for i := int(b[6]); i < 128; i += 2 {
		out = append(out, int(b[i])*256+int(b[i+1]))
	}
	return out, api.OK
}

// plainGet is what Get tells of a region that has these pages.
func plainGet(region [][]byte, first int) ([]int, []int, api.Errno) {
	var l, at []int
	short := false
	for now := first; now != 0; {
		if now < 0 || now >= len(region) {
			return nil, nil, api.ErrRange
		}
		c, e := plainCell(region[now])
		if e != api.OK {
			return nil, nil, e
		}
		at = append(at, now)
		if len(c) > 60 || short && len(c) > 1 {
			return nil, nil, api.ErrForm
		}
		short = short || len(c) < 60
		for _, x := range c[1:] {
			if x < 2 || x > 999 || len(l) > 0 && slices.Max(l) >= x {
				return nil, nil, api.ErrForm
			}
			l = append(l, x)
		}
		now = c[0]
		if now == 1 || now > 999 || slices.Contains(at, now) {
			return nil, nil, api.ErrForm
		}
	}
	return l, at, api.OK
}

// plainOwn tries one number after the other.
func plainOwn(free, wait int) int {
	free, wait = max(free, 0), max(wait, 0)
	for k := 0; ; k++ {
		if plainNeed(max(free-k, 0)+wait) <= k {
			return k
		}
	}
}

// What the tests hold.

// made is a new device.
func made(t *testing.T, sizes ...int) *disk.Disk {
	t.Helper()
	d, e := disk.New(sizes)
	if e != api.OK {
		t.Fatalf("New(%v) = %d", sizes, e)
	}
	return d
}

// write writes pages at places of a region.
func write(t *testing.T, d *disk.Disk, region int, at []int, pages [][]byte) {
	t.Helper()
	for i, b := range pages {
		if e := d.Write(region, at[i], b); e != api.OK {
			t.Fatalf("Write(%d, %d) = %d", region, at[i], e)
		}
	}
}

// stored is a device of one region of 1000 pages, with pages at places.
func stored(t *testing.T, at []int, pages ...[]byte) *disk.Disk {
	t.Helper()
	d := made(t, 1000)
	write(t, d, 0, at, pages)
	return d
}

// pages is what a region holds.
func pages(t *testing.T, d *disk.Disk, region int) [][]byte {
	t.Helper()
	var out [][]byte
	for i := range d.Len(region) {
		b, e := d.Read(region, i)
		if e != api.OK {
			t.Fatalf("Read(%d, %d) = %d", region, i, e)
		}
		out = append(out, b)
	}
	return out
}

// puts is the pages of a list that may be put there.
func puts(t *testing.T, l, at []int) [][]byte {
	t.Helper()
	got, e := list.Put(l, at)
	if want := plainPut(l, at); e != api.OK || !slices.EqualFunc(got, want, bytes.Equal) {
		t.Errorf("Put(%v, %v) = %x, %d, want %x", l, at, got, e, want)
	}
	return got
}

// notPut holds that Put has ErrArg, and nothing beside it.
func notPut(t *testing.T, l, at []int) {
	t.Helper()
	if got, e := list.Put(l, at); e != api.ErrArg || len(got) != 0 {
		t.Errorf("Put(%v, %v) = %x, %d, want ErrArg", l, at, got, e)
	}
}

// tried holds that Put tells what the chapter says, and whether the list may be put there.
func tried(t *testing.T, l, at []int) bool {
	t.Helper()
	if !plainMay(l, at) {
		notPut(t, l, at)
		return false
	}
	puts(t, l, at)
	return true
}

// gets holds what Get tells of a list that is stored.
func gets(t *testing.T, d *disk.Disk, region int, at, l []int) {
	t.Helper()
	first := 0
	if len(at) > 0 {
		first = at[0]
	}
	if got, read, e := list.Get(d, region, first); e != api.OK || !slices.Equal(got, l) || !slices.Equal(read, at) {
		t.Errorf("Get(%d, %d) = %v, %v, %d, want %v, %v", region, first, got, read, e, l, at)
	}
}

// refused holds that Get has an error, and nothing beside it.
func refused(t *testing.T, d *disk.Disk, region, first int, want api.Errno) {
	t.Helper()
	if l, at, e := list.Get(d, region, first); e != want || len(l) != 0 || len(at) != 0 {
		t.Errorf("Get(%d, %d) = %v, %v, %d, want error %d", region, first, l, at, e, want)
	}
}

// judged holds that Get tells what the chapter says of a region that has these pages.
func judged(t *testing.T, d *disk.Disk, region int, content [][]byte, first int) api.Errno {
	t.Helper()
	l, at, e := plainGet(content, first)
	if e != api.OK {
		refused(t, d, region, first, e)
	} else {
		gets(t, d, region, at, l)
	}
	return e
}

// own holds what Own tells.
func own(t *testing.T, free, wait, want int) {
	t.Helper()
	if got := list.Own(free, wait); got != want {
		t.Errorf("Own(%d, %d) = %d, want %d", free, wait, got, want)
	}
}

// P11.1: Need

func TestNeedKnown(t *testing.T) {
	for _, x := range []struct{ n, want int }{
		{math.MinInt, 0}, {math.MinInt + 58, 0}, {-1 << 32, 0}, {-60, 0}, {-59, 0}, {-58, 0}, {-1, 0}, {0, 0},
		{1, 1}, {2, 1}, {58, 1}, {59, 1}, {60, 2}, {61, 2}, {117, 2}, {118, 2}, {119, 3}, {177, 3}, {178, 4}, {998, 17}, {1000, 17},
		{1003, 17}, {1004, 18}, {59 << 20, 1 << 20}, {59<<20 + 1, 1<<20 + 1}, {59 << 32, 1 << 32}, {59<<32 - 1, 1 << 32}, {59<<32 + 1, 1<<32 + 1},
		{math.MaxInt, 156328339607708065}, {math.MaxInt - 30, 156328339607708065}, {math.MaxInt - 31, 156328339607708064}, {math.MaxInt - 90, 156328339607708063},
	} {
		if got := list.Need(x.n); got != x.want {
			t.Errorf("Need(%d) = %d, want %d", x.n, got, x.want)
		}
	}
}

func TestNeed(t *testing.T) {
	for n := -70000; n < 7000; n++ {
		if got, want := list.Need(n), plainNeed(n); got != want {
			t.Errorf("Need(%d) = %d, want %d", n, got, want)
		}
	}
}

// TestNeedHasRoom holds of large numbers that one page fewer has no room for them.
func TestNeedHasRoom(t *testing.T) {
	roll := dice(1)
	room := func(pages int) *big.Int { return new(big.Int).Mul(big.NewInt(int64(pages)), big.NewInt(59)) }
	for range 5000 {
		n := (roll(1<<31)<<31 | roll(1<<31)) >> roll(60) << 1
		got := list.Need(n)
		if room(got).Cmp(big.NewInt(int64(n))) < 0 || got > 0 && room(got-1).Cmp(big.NewInt(int64(n))) >= 0 {
			t.Errorf("Need(%d) = %d", n, got)
		}
	}
}

// P11.1: Put

// TestPutKnown has pages that are written out, but for the sum.
func TestPutKnown(t *testing.T) {
	up := "" // 2 to 60
	for x := 2; x <= 60; x++ {
		up += "00" + hex.EncodeToString([]byte{byte(x)})
	}
	zeros := func(n int) string { return strings.Repeat("00", n) }
	for _, x := range []struct {
		l, at []int
		want  []string // behind the sum
	}{
		{nil, nil, nil},
		{[]int{}, []int{}, nil},
		{nil, []int{2}, []string{"04 01 7e" + zeros(119) + "00 00"}},
		{nil, []int{999, 2, 258}, []string{"04 01 7e" + zeros(119) + "00 02", "04 01 7e" + zeros(119) + "01 02", "04 01 7e" + zeros(119) + "00 00"}},
		{[]int{2}, []int{999}, []string{"04 01 7c" + zeros(117) + "00 00 00 02"}},
		{[]int{999}, []int{2}, []string{"04 01 7c" + zeros(117) + "00 00 03 e7"}},
		{[]int{3, 255, 256, 258, 999}, []int{5}, []string{"04 01 74" + zeros(109) + "00 00 00 03 00 ff 01 00 01 02 03 e7"}},
		{[]int{3, 999}, []int{5, 4, 998}, []string{"04 01 7a" + zeros(115) + "00 04 00 03 03 e7", "04 01 7e" + zeros(119) + "03 e6", "04 01 7e" + zeros(119) + "00 00"}},
		{run(2, 58, 1), []int{61}, []string{"04 01 0a" + zeros(3) + "00 00" + up[:58*4]}},
		{run(2, 59, 1), []int{61}, []string{"04 01 08" + zeros(1) + "00 00" + up}},
		{run(2, 59, 1), []int{61, 772}, []string{"04 01 08" + zeros(1) + "03 04" + up, "04 01 7e" + zeros(119) + "00 00"}},
		{run(2, 60, 1), []int{62, 63}, []string{"04 01 08" + zeros(1) + "00 3f" + up, "04 01 7c" + zeros(117) + "00 00 00 3d"}},
		{run(2, 60, 1), []int{63, 62, 999}, []string{"04 01 08" + zeros(1) + "00 3e" + up, "04 01 7c" + zeros(117) + "03 e7 00 3d", "04 01 7e" + zeros(119) + "00 00"}},
	} {
		var want [][]byte
		for _, s := range x.want {
			want = append(want, summed(fromHex(t, s)))
		}
		if got, e := list.Put(x.l, x.at); e != api.OK || !slices.EqualFunc(got, want, bytes.Equal) {
			t.Errorf("Put(%v, %v) = %x, %d, want %x", x.l, x.at, got, e, want)
		}
		gets(t, stored(t, x.at, want...), 0, x.at, x.l)
	}
}

// TestPutOfEachLength has lists of each length, from those in no page to those that leave just room for themselves.
func TestPutOfEachLength(t *testing.T) {
	roll := dice(2)
	for n := range 982 {
		need := plainNeed(n)
		for _, more := range []int{0, 1, 2, 5} {
			if n+need+more <= 998 {
				l, at := split(roll, n, need+more)
				puts(t, l, at)
			}
		}
		l := run(2, n, 1)
		puts(t, l, run(2+n, need, 1))
		if n%20 < 2 {
			puts(t, l, run(999, 998-n, -1))
		}
		puts(t, run(1000-n, n, 1), run(2, need, 1))
	}
}

// TestPutOfTooFewPlaces has fewer than it needs, just as many, and more.
func TestPutOfTooFewPlaces(t *testing.T) {
	roll := dice(3)
	for _, n := range []int{0, 1, 2, 58, 59, 60, 61, 117, 118, 119, 120, 176, 177, 178, 300, 590, 591, 900, 981} {
		l, at := split(roll, n, min(998-n, plainNeed(n)+20))
		for have := range len(at) + 1 {
			if put := tried(t, l, at[:have]); put != (have >= plainNeed(n)) {
				t.Errorf("the test's own Put of %d numbers in %d pages: %v", n, have, put)
			}
		}
		if n > 0 {
			notPut(t, l, nil)
			notPut(t, l, []int{})
		}
	}
	for n := 982; n <= 998; n++ { // there are no pages left for so many
		for have := range 18 {
			l, at := split(roll, n, min(have, 998-n))
			notPut(t, l, at)
		}
	}
}

// TestPutOfEachNumber has each number at each place of short lists, and at some of longer ones.
func TestPutOfEachNumber(t *testing.T) {
	all := wrong()
	for x := -3; x < 1100; x++ {
		all = append(all, x)
	}
	at := []int{100, 998, 300}
	put := 0
	for _, x := range all {
		for _, l := range [][]int{
			{x}, {x, 500}, {500, x}, {x, 2}, {2, x}, {999, x}, {x, 999}, {x, 3, 999}, {2, x, 999}, {2, 999, x}, {2, 500, x, 999}, {x, x}, {2, x, x}, {x, x + 1},
			slices.Concat([]int{x}, run(400, 59, 1)), slices.Concat(run(400, 59, 1), []int{x}), slices.Concat(run(400, 30, 1), []int{x}, run(600, 100, 1)),
			slices.Concat(run(400, 58, 1), []int{x}, run(600, 2, 1)), slices.Concat(run(400, 118, 1), []int{x}), slices.Concat(run(400, 59, 1), []int{x}, run(600, 59, 1)),
		} {
			if tried(t, l, at) {
				put++
			}
		}
	}
	if put < 8000 || put > 15000 {
		t.Errorf("%d of them may be put", put)
	}
}

// TestPutOfNumbersThatDoNotRise has two equal or falling ones at each place of a list.
func TestPutOfNumbersThatDoNotRise(t *testing.T) {
	at := []int{2, 3, 4, 5}
	l := run(10, 180, 5)
	puts(t, l, at)
	for i := 1; i < len(l); i++ {
		was := l[i]
		for _, x := range []int{l[i-1], l[i-1] - 1, l[i-1] - 5, l[0], l[0] - 1} {
			l[i] = x
			notPut(t, l, at)
			notPut(t, l[:i+1], at)
		}
		l[i], l[i-1] = l[i-1], was
		notPut(t, l, at)
		l[i], l[i-1] = was, l[i]
	}
	puts(t, l, at)
	slices.Reverse(l)
	notPut(t, l, at)
	notPut(t, make([]int, 59), at)
	notPut(t, slices.Repeat([]int{7}, 59), at)
}

// TestPutOfTooManyNumbers has more than there are pages.
func TestPutOfTooManyNumbers(t *testing.T) {
	for _, n := range []int{999, 1000, 1001, 1062, 1 << 16, 1 << 20} {
		notPut(t, run(2, n, 1), run(2, plainNeed(n), 1))
		notPut(t, run(2, n, 1), nil)
		notPut(t, make([]int, n), []int{2})
		notPut(t, nil, run(2, n, 1))
		notPut(t, nil, make([]int, n))
		notPut(t, nil, slices.Repeat([]int{7}, n))
	}
	puts(t, nil, run(2, 998, 1))
	notPut(t, nil, run(1, 998, 1))
	notPut(t, nil, run(3, 998, 1))
}

// TestPutOfEachPlace has each page at each place of lists, those that are in them too.
func TestPutOfEachPlace(t *testing.T) {
	all := wrong()
	for p := -3; p < 1100; p++ {
		all = append(all, p)
	}
	put := 0
	for _, l := range [][]int{nil, {2}, {999}, {2, 500, 999}, run(300, 59, 1), run(300, 60, 7), run(300, 130, 2)} {
		for _, more := range []int{0, 1, 3} {
			for i := range plainNeed(len(l)) + more {
				for _, p := range all {
					at := []int{17, 998, 3, 299, 5, 7}[:plainNeed(len(l))+more]
					at[i] = p
					if tried(t, l, at) {
						put++
					}
				}
			}
		}
	}
	if put < 30000 {
		t.Errorf("only %d of them may be put", put)
	}
}

// TestPutOfListedPlaces has each number of lists at each place, where a part is put and where none is.
func TestPutOfListedPlaces(t *testing.T) {
	for _, l := range [][]int{{2}, {999}, run(300, 59, 3), run(300, 60, 3), run(300, 130, 2)} {
		need := plainNeed(len(l))
		for i := range need + 3 {
			for _, x := range l {
				at := []int{20, 998, 17, 3, 299, 5}[:need+3]
				at[i] = x
				notPut(t, l, at)
				notPut(t, l, at[:i+1])
				at[i] = x + 1
				tried(t, l, at)
			}
		}
	}
}

func TestPutOfEqualPlaces(t *testing.T) {
	for _, l := range [][]int{nil, {2}, run(300, 59, 1), run(300, 60, 1), run(300, 178, 1)} {
		for n := max(2, plainNeed(len(l))); n < 8; n++ {
			for i := range n {
				for k := range i {
					at := []int{5, 3, 999, 4, 100, 250, 8}[:n]
					at[i] = at[k]
					notPut(t, l, at)
				}
			}
			for _, p := range []int{0, 1, 2, 3, 500, 999, 1000} {
				notPut(t, l, slices.Repeat([]int{p}, n))
			}
		}
	}
}

// TestPutOfWildLists has few pages, so that many are equal, listed or none.
func TestPutOfWildLists(t *testing.T) {
	roll, put := dice(4), 0
	few := []int{1, 2, 3, 4, 5, 6, 7, 997, 998, 999, 1000}
	for range 20000 {
		l, at := split(roll, []int{0, 1, 2, 3, 58, 59, 60, 61, 118, 119}[roll(10)], roll(6))
		for _, some := range [][]int{l, at} {
			if len(some) > 0 && roll(3) == 0 {
				some[roll(len(some))] = few[roll(len(few))]
			}
		}
		if roll(2) == 0 {
			slices.Sort(l)
		}
		if tried(t, l, at) {
			put++
		}
	}
	if put < 2000 || put > 18000 {
		t.Errorf("%d of them may be put", put)
	}
}

// P11.2

func TestGet(t *testing.T) {
	roll := dice(5)
	for n := range 982 {
		need := plainNeed(n)
		for _, places := range []int{need, max(1, need), min(998-n, need+3)} {
			l, at := split(roll, n, places)
			gets(t, stored(t, at, plainPut(l, at)...), 0, at, l)
		}
	}
	l, at := split(roll, 0, 998) // every page that there is
	gets(t, stored(t, at, plainPut(l, at)...), 0, at, l)
	l, at = split(roll, 500, 498)
	gets(t, stored(t, at, plainPut(l, at)...), 0, at, l)
}

// TestGetOfNoPages holds that no page is asked for.
func TestGetOfNoPages(t *testing.T) {
	l, at := run(10, 60, 1), []int{3, 2}
	d := stored(t, at, plainPut(l, at)...)
	write(t, d, 0, []int{0}, [][]byte{part(0, 5, 6, 7)})
	stopped := made(t, 8)
	stopped.Stop(0, 0)
	stopped.Sync(0)
	for _, r := range append(wrong(), 0, 1, 2, 63, 64) {
		for _, some := range []*disk.Disk{d, stopped, nil, {}} {
			if l, at, e := list.Get(some, r, 0); e != api.OK || len(l) != 0 || len(at) != 0 {
				t.Errorf("Get(%d, 0) = %v, %v, %d", r, l, at, e)
			}
		}
	}
}

func TestGetOfWrongRegionsAndPages(t *testing.T) {
	d := made(t, 1000, 6)
	write(t, d, 0, []int{5}, [][]byte{part(0, 9)})
	write(t, d, 1, []int{5}, [][]byte{part(0, 8)})
	for _, r := range append(wrong(), 2, 3, 63, 64) {
		refused(t, d, r, 5, api.ErrRange)
		refused(t, d, r, -1, api.ErrRange)
	}
	for _, p := range wrong() {
		refused(t, d, 0, p, api.ErrRange)
		refused(t, d, 1, p, api.ErrRange)
	}
	for p := 6; p < 1002; p++ {
		refused(t, d, 1, p, api.ErrRange)
	}
	gets(t, d, 0, []int{5}, []int{9})
	gets(t, d, 1, []int{5}, []int{8})
}

// TestGetOfNextPagesThatThereAreNot has chains that go on behind their region's end.
func TestGetOfNextPagesThatThereAreNot(t *testing.T) {
	l := run(100, 178, 1)
	for i := 1; i < 4; i++ {
		for _, next := range []int{8, 9, 255, 256, 998, 999} {
			at := []int{2, 3, 4, 5}
			at[i] = next
			d := made(t, 8)
			write(t, d, 0, at[:i], plainPut(l, at)[:i])
			refused(t, d, 0, 2, api.ErrRange)
		}
		at := []int{2, 3, 4, 5}
		at[i] = 7
		d := made(t, 8)
		write(t, d, 0, at, plainPut(l, at))
		gets(t, d, 0, at, l)
	}
}

func TestGetOfNoDevice(t *testing.T) {
	for _, first := range []int{-1, 1, 2, 999, 1000} {
		refused(t, nil, 0, first, api.ErrArg)
		refused(t, nil, -1, first, api.ErrArg)
		refused(t, &disk.Disk{}, 0, first, api.ErrRange)
	}
}

func TestGetOfARegionThatIsDown(t *testing.T) {
	at, l := []int{5, 9, 7, 3}, run(100, 178, 1)
	d := made(t, 10, 10)
	write(t, d, 0, at, plainPut(l, at))
	write(t, d, 1, at, plainPut(l, at))
	d.Stop(0, 1)
	d.Sync(0)
	gets(t, d, 0, at, l)
	d.Sync(0)
	refused(t, d, 0, 5, api.ErrDown)
	refused(t, d, 0, 2, api.ErrDown)
	refused(t, d, 0, 1000, api.ErrDown)
	refused(t, d, 2, 5, api.ErrRange)
	gets(t, d, 0, nil, nil)
	gets(t, d, 1, at, l)
	d.Crash(nil)
	gets(t, d, 0, at, l)
	refused(t, d, 1, 5, api.ErrSum) // what was loose there is gone
}

// TestGetOfLoosePages holds that a page is read as it was written last.
func TestGetOfLoosePages(t *testing.T) {
	at, l, m := []int{5, 9, 7, 3}, run(100, 178, 2), run(101, 178, 2)
	d := stored(t, at, plainPut(l, at)...)
	d.Sync(0)
	write(t, d, 0, at, plainPut(m, at))
	gets(t, d, 0, at, m)
	d.Crash([]string{"\x0a"}) // the second and the fourth page stay
	gets(t, d, 0, at, slices.Concat(l[:59], m[59:118], l[118:177], m[177:]))
}

func TestGetOfPagesThatWereNeverWritten(t *testing.T) {
	d := made(t, 20)
	for p := 1; p < 20; p++ {
		refused(t, d, 0, p, api.ErrSum)
	}
	at, l := []int{5, 9, 7, 3, 4}, run(100, 178, 1)
	for i := range at {
		d := stored(t, at, plainPut(l, at)...)
		write(t, d, 0, at[i:], [][]byte{make([]byte, 128)})
		refused(t, d, 0, 5, api.ErrSum)
	}
}

// places is where the list of these tests stands: its last part has three numbers, and the last page none.
func places() []int { return []int{5, 9, 7, 3} }

// numbers is that list: two full parts and a shorter one.
func numbers() []int { return run(100, 121, 3) }

// with is a device with that list, one page of which is another one.
func with(t *testing.T, i int, b []byte) *disk.Disk {
	t.Helper()
	l := plainPut(numbers(), places())
	l[i] = b
	return stored(t, places(), l...)
}

// listed is the cells of that list.
func listed() []string {
	var out []string
	for i, p := range append(plainParts(numbers()), nil) {
		out = append(out, cell(append(places(), 0)[i+1], p...))
	}
	return out
}

// TestGetOfAWrongSum changes each bit of each page of a list.
func TestGetOfAWrongSum(t *testing.T) {
	at, l := places(), numbers()
	d := stored(t, at, plainPut(l, at)...)
	for i, b := range plainPut(l, at) {
		for bit := range 8 * 128 {
			b[bit/8] ^= 1 << (bit % 8)
			write(t, d, 0, at[i:], [][]byte{b})
			refused(t, d, 0, 5, api.ErrSum)
			b[bit/8] ^= 1 << (bit % 8)
		}
		write(t, d, 0, at[i:], [][]byte{b})
		gets(t, d, 0, at, l)
	}
}

func TestGetOfEachKind(t *testing.T) {
	for i, c := range listed() {
		for kind := range 256 {
			if kind == 4 {
				gets(t, with(t, i, page(4, c)), 0, places(), numbers())
			} else {
				refused(t, with(t, i, page(byte(kind), c)), 0, 5, api.ErrForm)
			}
		}
	}
}

// TestGetOfOtherCells has none, or more than one.
func TestGetOfOtherCells(t *testing.T) {
	for i, c := range listed() {
		lists := [][]string{nil, {"", ""}, slices.Repeat([]string{""}, 122), {c, ""}, {"", c}, {c, c}, {c, "", ""}, {c, "\x00\x00"}, {"\x00\x00", c}}
		for cut := range len(c) {
			lists = append(lists, []string{c[:cut], c[cut:]}, []string{c[cut:], c[:cut]}, []string{c[:cut], c[cut : len(c)-1]}, []string{c[:len(c)-1], c[cut:]})
		}
		for _, l := range lists {
			if len(strings.Join(l, ""))+len(l) <= 122 {
				refused(t, with(t, i, page(4, l...)), 0, 5, api.ErrForm)
			}
		}
	}
}

// TestGetOfCellsOfEachLength has cells that are too short, odd ones, and ones with too many bytes.
func TestGetOfCellsOfEachLength(t *testing.T) {
	l := run(100, 60, 3)
	for size := range 122 {
		d := stored(t, []int{2}, page(4, (cell(0, l...))[:size]))
		if size >= 2 && size%2 == 0 {
			gets(t, d, 0, []int{2}, l[:size/2-1])
		} else {
			refused(t, d, 0, 2, api.ErrForm)
		}
	}
	for i, c := range listed() {
		for size := range 122 {
			b := page(4, (c + cell(900, run(901, 60, 1)...))[:size])
			d := with(t, i, b)
			e := judged(t, d, 0, pages(t, d, 0), 5)
			want := api.ErrForm
			if size == len(c) || i == 2 && size >= 2 && size%2 == 0 { // no part behind the third one has numbers, and the fourth one may have none
				want = api.OK
			}
			if e != want {
				t.Errorf("the test's own Get of page %d with %d bytes has %d, want %d", i, size, e, want)
			}
		}
	}
}

// TestGetBehindAShortPart has parts of each length, and behind them a page with numbers or without.
func TestGetBehindAShortPart(t *testing.T) {
	for n := range 60 {
		for m := range 60 {
			l := run(10, n+m, 1)
			d := stored(t, []int{5, 9}, part(9, l[:n]...), part(0, l[n:]...))
			if n == 59 || m == 0 {
				gets(t, d, 0, []int{5, 9}, l)
			} else {
				refused(t, d, 0, 5, api.ErrForm)
			}
		}
	}
}

// TestGetBehindSeveralParts has parts without, with some and with all numbers behind each other, in any order.
func TestGetBehindSeveralParts(t *testing.T) {
	at := []int{5, 9, 7, 3, 4}
	sizes := []int{0, 1, 58, 59}
	for k := range 1 << 10 {
		from, over, fits := 10, false, true
		var l []int
		var content [][]byte
		for i := range at {
			n := sizes[k>>(2*i)&3]
			next := append(at, 0)[i+1]
			now := run(from, n, 1)
			from += n
			content = append(content, part(next, now...))
			l = append(l, now...)
			fits = fits && (!over || n == 0)
			over = over || n < 59
		}
		d := stored(t, at, content...)
		if fits {
			gets(t, d, 0, at, l)
		} else {
			refused(t, d, 0, 5, api.ErrForm)
		}
	}
}

// TestGetOfEachNumber has each number at some places of a list, in one page and from one page to the next.
func TestGetOfEachNumber(t *testing.T) {
	at := places()
	l := numbers()
	for _, i := range []int{0, 1, 30, 57, 58, 59, 60, 100, 117, 118, 119, 120} {
		d := stored(t, at, plainPut(l, at)...)
		content := pages(t, d, 0)
		was := l[i]
		k := i / 59
		for x := range upTo(i == 59) {
			l[i] = x
			b := part(at[k+1], plainParts(l)[k]...)
			write(t, d, 0, at[k:], [][]byte{b})
			content[at[k]] = b
			want := api.ErrForm
			if x >= 2 && x <= 999 && (i == 0 || x > l[i-1]) && (i == 120 || x < l[i+1]) {
				want = api.OK
			}
			if e := judged(t, d, 0, content, 5); e != want {
				t.Fatalf("number %d is %d: the test's own Get has %d, want %d", i, x, e, want)
			}
		}
		l[i] = was
	}
}

// TestGetOfNumbersThatDoNotRise has two equal or falling ones at each place of a list.
func TestGetOfNumbersThatDoNotRise(t *testing.T) {
	at, l := places(), numbers()
	for i := 1; i < len(l); i++ {
		was := l[i]
		for _, x := range []int{l[i-1], l[i-1] - 1, l[0], l[0] - 1, 2} {
			l[i] = x
			refused(t, stored(t, at, plainPut(l, at)...), 0, 5, api.ErrForm)
		}
		l[i], l[i-1] = l[i-1], was
		refused(t, stored(t, at, plainPut(l, at)...), 0, 5, api.ErrForm)
		l[i], l[i-1] = was, l[i]
	}
	gets(t, stored(t, at, plainPut(l, at)...), 0, at, l)
	// Each part rises, and not the whole.
	low, high, top := run(100, 59, 1), run(300, 59, 1), run(500, 3, 1)
	for _, x := range [][3][]int{{high, low, top}, {low, low, top}, {high, low, nil}, {low, high, {358}}, {low, high, {357}}, {low, high, {158}}, {low, high, {2}}, {high, run(300, 59, 2), nil}} {
		refused(t, stored(t, []int{5, 9, 7}, part(9, x[0]...), part(7, x[1]...), part(0, x[2]...)), 0, 5, api.ErrForm)
	}
	gets(t, stored(t, []int{5, 9, 7}, part(9, low...), part(7, high...), part(0, 359)), 0, []int{5, 9, 7}, slices.Concat(low, high, []int{359}))
}

// TestGetOfNumbersThatAreItsPages holds that a list that is read may have the pages that it stands in.
func TestGetOfNumbersThatAreItsPages(t *testing.T) {
	at, l := []int{5, 9, 70}, run(2, 100, 1)
	gets(t, stored(t, at, plainPut(l, at)...), 0, at, l)
	gets(t, stored(t, []int{5}, part(0, 5)), 0, []int{5}, []int{5})
	gets(t, stored(t, []int{2}, part(0, 2, 999)), 0, []int{2}, []int{2, 999})
}

// TestGetOfEachNextPage has each number of a next page in each page of a list.
func TestGetOfEachNextPage(t *testing.T) {
	at, l := places(), numbers()
	parts := append(plainParts(l), nil)
	d := stored(t, at, plainPut(l, at)...)
	content := pages(t, d, 0)
	for i := range at {
		for next := range upTo(i == 2) {
			b := part(next, parts[i]...)
			write(t, d, 0, at[i:], [][]byte{b})
			content[at[i]] = b
			e := judged(t, d, 0, content, 5)
			want := api.ErrForm
			switch {
			case next == 0, slices.Contains(at[i+1:], next): // what is left out takes its numbers with it
				want = api.OK
			case 2 <= next && next <= 999 && !slices.Contains(at, next):
				want = api.ErrSum // never written
			}
			if e != want {
				t.Fatalf("page %d of %d tells %d: the test's own Get has %d, want %d", i, len(at), next, e, want)
			}
		}
		content[at[i]] = plainPut(l, at)[i]
		write(t, d, 0, at[i:], content[at[i]:at[i]+1])
	}
}

// TestGetOfRings has pages that tell themselves, or ones that were read already; without numbers nothing else is wrong with them.
func TestGetOfRings(t *testing.T) {
	full := run(100, 59, 1)
	for _, l := range [][]int{nil, {2}, {999}, full} {
		for _, p := range []int{2, 3, 500, 998, 999} {
			refused(t, stored(t, []int{p}, part(p, l...)), 0, p, api.ErrForm)
		}
		refused(t, stored(t, []int{2, 999}, part(999, l...), part(2)), 0, 2, api.ErrForm)
		refused(t, stored(t, []int{2, 999}, part(999, l...), part(2)), 0, 999, api.ErrForm)
		refused(t, stored(t, []int{2, 999}, part(999, l...), part(999)), 0, 2, api.ErrForm)
	}
	for n := 1; n <= 12; n++ { // the last of n pages tells the k-th one
		for k := range n {
			at := drawn(dice(uint64(13*n+k)), n)
			content := plainPut(nil, at)
			content[n-1] = part(at[k])
			d := stored(t, at, content...)
			for _, first := range at {
				refused(t, d, 0, first, api.ErrForm)
			}
			write(t, d, 0, at[n-1:], [][]byte{part(0)})
			gets(t, d, 0, at, nil)
		}
	}
	for _, next := range []int{2, 500, 998, 999} { // every page that there is
		at := run(2, 998, 1)
		content := plainPut(nil, at)
		content[997] = part(next)
		refused(t, stored(t, at, content...), 0, 2, api.ErrForm)
	}
}

// TestGetFromMetaPages holds that the first page may be any that the region has, but for 0; only a next one may not be a meta page.
func TestGetFromMetaPages(t *testing.T) {
	gets(t, stored(t, []int{1, 3}, part(3, 7, 8), part(0)), 0, []int{1, 3}, []int{7, 8})
	gets(t, stored(t, []int{1}, part(0, 7)), 0, []int{1}, []int{7})
	refused(t, stored(t, []int{5, 1}, part(1, 7), part(0)), 0, 5, api.ErrForm)
	refused(t, stored(t, []int{1}, part(1, 7)), 0, 1, api.ErrForm)
	gets(t, stored(t, []int{5, 0}, part(0, 7), part(0)), 0, []int{5}, []int{7}) // 0 is none, whatever stands there
	at, content := run(1, 999, 1), [][]byte{part(2, 7)}                         // as many as there can be
	gets(t, stored(t, at, append(content, plainPut(nil, at[1:])...)...), 0, at, []int{7})
}

// TestGetFromTheMiddle begins at a later page of a list.
func TestGetFromTheMiddle(t *testing.T) {
	at, l := []int{5, 9, 7, 3, 2}, numbers()
	d := stored(t, at, plainPut(l, at)...)
	for i := range at {
		gets(t, d, 0, at[i:], l[min(59*i, len(l)):])
	}
}

// TestGetOfEachChangedByte has pages of which one byte is another one, behind a right sum.
func TestGetOfEachChangedByte(t *testing.T) {
	for _, n := range []int{3, 60} {
		l, at := run(250, n, 1), []int{5, 9, 7}[:plainNeed(n)+1]
		d := made(t, 12)
		write(t, d, 0, at, plainPut(l, at))
		content := pages(t, d, 0)
		for _, p := range at {
			was := content[p]
			for i := 4; i < 128; i++ {
				for c := range 256 {
					b := bytes.Clone(was)
					b[i] = byte(c)
					content[p] = resummed(b)
					write(t, d, 0, []int{p}, content[p:p+1])
					judged(t, d, 0, content, 5)
				}
			}
			content[p] = was
			write(t, d, 0, []int{p}, [][]byte{was})
		}
		gets(t, d, 0, at, l)
	}
}

// faults is pages with one fault or several, of a region of twelve pages, and what comes of them: ahead of other parts, and behind a part that was the last one.
func faults() []fault {
	full := run(100, 59, 1)
	return []fault{
		{"a wrong sum, kind, length and next page", missummed(page(1, "x")), api.ErrSum, api.ErrSum},
		{"a wrong sum alone", missummed(part(0)), api.ErrSum, api.ErrSum},
		{"no page of cells, though of the kind 4", resummed(slices.Concat(part(0)[:5], []byte{123}, part(0)[6:])), api.ErrForm, api.ErrForm},
		{"another kind", page(3, cell(0)), api.ErrForm, api.ErrForm},
		{"another kind, and a next page with a wrong sum", page(3, cell(11)), api.ErrForm, api.ErrForm},
		{"no cell", page(4), api.ErrForm, api.ErrForm},
		{"two cells, and a next page with a wrong sum", page(4, cell(11), ""), api.ErrForm, api.ErrForm},
		{"a cell of one byte", page(4, "\x00"), api.ErrForm, api.ErrForm},
		{"an odd cell, and a next page with a wrong sum", page(4, cell(11)+"x"), api.ErrForm, api.ErrForm},
		{"an odd cell, and a next page that the region hasn't", page(4, cell(12)+"x"), api.ErrForm, api.ErrForm},
		{"a wrong number, and a next page with a wrong sum", part(11, 1), api.ErrForm, api.ErrForm},
		{"a wrong number, and a next page that the region hasn't", part(12, 1000), api.ErrForm, api.ErrForm},
		{"numbers that fall, and a next page with a wrong sum", part(11, 300, 299), api.ErrForm, api.ErrForm},
		{"a next page that no region has", part(1000), api.ErrForm, api.ErrForm},
		{"a next page that is a meta page with a wrong sum", part(1), api.ErrForm, api.ErrForm},
		{"itself", part(5), api.ErrForm, api.ErrForm},
		{"itself, with a wrong sum", missummed(part(5)), api.ErrSum, api.ErrSum},
		{"a next page that the region hasn't", part(12), api.ErrRange, api.ErrRange},
		{"a next page that the region hasn't, and numbers", part(999, full...), api.ErrRange, api.ErrForm},
		{"a next page with a wrong sum", part(11), api.ErrSum, api.ErrSum},
		{"a next page with a wrong sum, and numbers", part(11, full...), api.ErrSum, api.ErrForm},
		{"a next page of another kind", part(10), api.ErrForm, api.ErrForm},
	}
}

// fault is one of them, for page 5.
type fault struct {
	why         string
	page        []byte
	want, short api.Errno
}

// flawed is a device with a page ahead in page 4, one in page 5, and ones with a wrong sum and of another kind in pages 11 and 10.
func flawed(t *testing.T, ahead, now []byte) *disk.Disk {
	t.Helper()
	d := made(t, 12)
	write(t, d, 0, []int{4, 5, 11, 10}, [][]byte{ahead, now, missummed(part(0)), page(1, cell(0))})
	return d
}

func TestOrderOfErrors(t *testing.T) {
	for _, x := range faults() {
		d := flawed(t, part(5, run(2, 59, 1)...), x.page)
		refused(t, d, 0, 5, x.want)
		refused(t, d, 0, 4, x.want)
		refused(t, d, 1, 5, api.ErrRange)
		refused(t, d, 0, 12, api.ErrRange)
		refused(t, flawed(t, part(5), x.page), 0, 4, x.short)
		if t.Failed() {
			t.Fatalf("the page has %s", x.why)
		}
	}
}

// TestOrderOfPages holds that what is wrong with a page comes ahead of what is wrong with the next one.
func TestOrderOfPages(t *testing.T) {
	for _, x := range faults() {
		for _, ahead := range [][]byte{page(4, cell(5)+"x"), page(4, cell(5), ""), page(5, cell(5)), part(5, 1), part(5, 1000), part(5, 3, 3), part(5, 4, 3), part(1000), part(1), part(4)} {
			refused(t, flawed(t, ahead, x.page), 0, 4, api.ErrForm)
			refused(t, flawed(t, missummed(ahead), x.page), 0, 4, api.ErrSum)
		}
	}
}

// TestGetReadsJustItsPages has no other page of a region that could be read as a part, and none behind the last one that it tells.
func TestGetReadsJustItsPages(t *testing.T) {
	roll := dice(6)
	for _, n := range []int{0, 1, 58, 59, 60, 118, 119, 300} {
		for more := 1; more < 4; more++ {
			l, at := split(roll, n, plainNeed(n)+more)
			d := made(t, slices.Max(at)+1)
			for p := range d.Len(0) {
				write(t, d, 0, []int{p}, [][]byte{missummed(part(2, 3))})
			}
			write(t, d, 0, at, plainPut(l, at))
			gets(t, d, 0, at, l)
			gets(t, d, 0, nil, nil)
		}
	}
}

// TestGetWritesNothing holds what Get leaves behind on its device.
func TestGetWritesNothing(t *testing.T) {
	at, l := places(), numbers()
	d := stored(t, at, plainPut(l, at)...)
	was := pages(t, d, 0)
	d.Stop(0, 1)
	for range 3 {
		gets(t, d, 0, at, l)
		gets(t, d, 0, nil, nil)
		refused(t, d, 0, 2, api.ErrSum)
		refused(t, d, 0, 1000, api.ErrRange)
	}
	if !slices.EqualFunc(pages(t, d, 0), was, bytes.Equal) || !slices.Equal(d.Loose(0), at) || d.Down(0) {
		t.Errorf("Get changed its device: loose are %v", d.Loose(0))
	}
	if a, b := d.Sync(0), d.Sync(0); a != api.OK || b != api.ErrDown {
		t.Errorf("Get counted ahead of the stop: Sync came to %d, then %d", a, b)
	}
}

// TestGetOfWildRegions has a few pages with lists in any order, some of them changed.
func TestGetOfWildRegions(t *testing.T) {
	roll := dice(7)
	met := map[api.Errno]int{}
	long := 0
	for range 6000 {
		d := made(t, 12)
		wild(t, roll, d)
		content := pages(t, d, 0)
		for first := -1; first < 13; first++ {
			met[judged(t, d, 0, content, first)]++
			if l, at, _ := plainGet(content, first); len(at) > 2 && len(l) > 59 {
				long++
			}
		}
	}
	for e, least := range map[api.Errno]int{api.OK: 10000, api.ErrSum: 10000, api.ErrForm: 5000, api.ErrRange: 10000} {
		if met[e] < least {
			t.Errorf("error %d came only %d times", e, met[e])
		}
	}
	if long < 1000 {
		t.Errorf("only %d lists were long", long)
	}
}

// wild writes lists and changed pages of them to a region of twelve pages.
func wild(t *testing.T, roll func(int) int, d *disk.Disk) {
	t.Helper()
	for range 1 + roll(3) {
		l, _ := split(roll, []int{0, 1, 30, 58, 59, 60, 118, 119, 177, 178}[roll(10)], 0)
		at := run(2, 10, 1)
		for i := range at {
			k := i + roll(len(at)-i)
			at[i], at[k] = at[k], at[i]
		}
		at = at[:min(10, max(1, plainNeed(len(l))+roll(3)))]
		write(t, d, 0, at, plainPut(l, at))
		if roll(2) == 0 {
			write(t, d, 0, at[roll(len(at)):], [][]byte{changed(roll, l, at)})
		}
	}
}

// changed is a page of a list with something wrong with it, or with another next page.
func changed(roll func(int) int, l, at []int) []byte {
	var now []int
	if parts := plainParts(l); len(parts) > 0 {
		now = slices.Clone(parts[roll(len(parts))])
	}
	next := append(at, 0)[roll(len(at)+1)]
	switch roll(7) {
	case 0:
		return missummed(part(next, now...))
	case 1:
		return page(byte(roll(256)), cell(next, now...))
	case 2:
		return page(4, cell(next, now[:len(now)/2]...), "")
	case 3:
		return part(next, now[:roll(len(now)+1)]...)
	case 4:
		return part([]int{0, 1, 12, 999, 1000, 1 << 15}[roll(6)], now...)
	case 5:
		if len(now) > 0 {
			now[roll(len(now))] = roll(1100)
		}
		return part(next, now...)
	default:
		return part(roll(14), now...)
	}
}

// P11.3

func TestExample(t *testing.T) { own(t, 60, 0, 1) }

func TestOwnKnown(t *testing.T) {
	for _, x := range []struct{ free, wait, want int }{
		{0, 0, 0}, {-1, 0, 0}, {0, -1, 0}, {-1, -1, 0}, {-60, 1, 1}, {1, -60, 1}, {-60, 60, 2}, {60, -60, 1}, {-1000, -1000, 0}, {-1000, 1, 1},
		{1, 0, 1}, {2, 0, 1}, {59, 0, 1}, {60, 0, 1}, {61, 0, 2}, {120, 0, 2}, {121, 0, 3}, {180, 0, 3}, {181, 0, 4}, {998, 0, 17},
		{0, 1, 1}, {0, 59, 1}, {0, 60, 2}, {0, 118, 2}, {0, 119, 3}, {0, 177, 3}, {0, 178, 4}, {0, 998, 17},
		{1, 1, 1}, {1, 58, 1}, {1, 59, 1}, {1, 60, 2}, {2, 58, 1}, {2, 59, 2}, {2, 118, 2}, {2, 119, 3}, {3, 117, 2}, {3, 118, 3}, {30, 30, 1}, {30, 31, 2}, {60, 60, 2}, {60, 61, 3},
		{math.MinInt, math.MinInt, 0}, {math.MinInt, 0, 0}, {0, math.MinInt, 0}, {math.MinInt, 60, 2}, {60, math.MinInt, 1}, {61, math.MinInt, 2},
	} {
		own(t, x.free, x.wait, x.want)
		if got := plainOwn(x.free, x.wait); got != x.want {
			t.Errorf("the test's own Own(%d, %d) is %d, want %d", x.free, x.wait, got, x.want)
		}
	}
}

func TestOwn(t *testing.T) {
	for free := -3; free < 700; free++ {
		for wait := -3; wait < 700; wait++ {
			own(t, free, wait, plainOwn(free, wait))
		}
	}
	for n := range 1200 {
		for few := -2; few < 62; few++ {
			own(t, n, few, plainOwn(n, few))
			own(t, few, n, plainOwn(few, n))
		}
	}
}

// TestOwnOfLargeNumbers holds that so many suffice, and one fewer doesn't: still fewer have less room for more numbers.
func TestOwnOfLargeNumbers(t *testing.T) {
	suffices := func(free, wait, k int) bool {
		left := new(big.Int).Add(big.NewInt(int64(max(free-k, 0))), big.NewInt(int64(wait)))
		return left.Cmp(new(big.Int).Mul(big.NewInt(int64(k)), big.NewInt(59))) <= 0
	}
	roll := dice(8)
	all := []int{0, 1, 59, 60, 61, 998, 1 << 31, 1 << 32, 1 << 62, math.MaxInt - 60, math.MaxInt - 59, math.MaxInt - 58, math.MaxInt - 1, math.MaxInt}
	for range 150 {
		all = append(all, (roll(1<<31)<<31|roll(1<<31))>>roll(60)<<1)
	}
	for _, free := range all {
		for _, wait := range all {
			if k := list.Own(free, wait); k < 0 || !suffices(free, wait, k) || k > 0 && suffices(free, wait, k-1) {
				t.Errorf("Own(%d, %d) = %d", free, wait, k)
			}
		}
		own(t, math.MinInt, free, list.Own(0, free))
		own(t, free, math.MinInt, list.Own(free, 0))
	}
}

// TestOwnIsEnough puts the free pages and those that wait in as many of the free ones, or of others where there are too few.
func TestOwnIsEnough(t *testing.T) {
	roll := dice(9)
	for range 2000 {
		free, wait := roll(400), roll(400)
		k := list.Own(free, wait)
		all := drawn(roll, free+wait+k)
		own := min(k, free)
		at, l := slices.Concat(all[:own], all[free+wait+own:]), slices.Clone(all[own:free+wait])
		slices.Sort(l)
		if !tried(t, l, at) {
			t.Errorf("Own(%d, %d) = %d: %d numbers aren't put there", free, wait, k, len(l))
		}
	}
}

// Rule 3: arguments are neither modified nor retained, and results are in new memory.

func TestPutLeavesItsArguments(t *testing.T) {
	roll := dice(10)
	for _, n := range []int{0, 1, 58, 59, 60, 118, 119, 300} {
		for more := range 3 {
			l, at := split(roll, n, plainNeed(n)+more)
			wide, far := append(slices.Clone(l), -7, -8, -9), append(slices.Clone(at), -4, -5, -6)
			wasWide, wasFar := slices.Clone(wide), slices.Clone(far)
			got, e := list.Put(wide[:n], far[:len(at)])
			if e != api.OK || !slices.Equal(wide, wasWide) || !slices.Equal(far, wasFar) {
				t.Errorf("Put: %d, and its arguments became %v, %v, want %v, %v", e, wide, far, wasWide, wasFar)
			}
			clear(wide)
			clear(far)
			if want := plainPut(l, at); !slices.EqualFunc(got, want, bytes.Equal) {
				t.Errorf("Put of %v became %x when its arguments were changed, want %x", l, got, want)
			}
		}
	}
	for _, x := range [][2][]int{{{3, 2, 9}, {5, 4}}, {{2, 3}, {3, 2}}, {{2, 2}, {9, 9}}, {run(2, 60, 1), {900}}, {{9}, {1000, 1, 0}}} {
		l, at := slices.Clone(x[0]), slices.Clone(x[1])
		notPut(t, l, at)
		if !slices.Equal(l, x[0]) || !slices.Equal(at, x[1]) {
			t.Errorf("Put made %v, %v of %v, %v", l, at, x[0], x[1])
		}
	}
}

// TestPagesAreTheirOwn changes each page, and what is behind it.
func TestPagesAreTheirOwn(t *testing.T) {
	l, at := numbers(), []int{5, 9, 7, 3, 2}
	for i := range at {
		got, other, want := puts(t, l, at), puts(t, l, at), plainPut(l, at)
		for k := range got[i] {
			got[i][k], want[i][k] = 'y', 'y'
		}
		clear(got[i][len(got[i]):cap(got[i])])
		longer := append(got[i], "after"...)
		if !slices.EqualFunc(got, want, bytes.Equal) || !slices.EqualFunc(other, plainPut(l, at), bytes.Equal) || string(longer) != string(want[i])+"after" {
			t.Errorf("what was written to page %d made them %x, others %x", i, got, other)
		}
	}
	got, other := puts(t, l, at), puts(t, l, at)
	clear(got)
	_ = append(got[:0], []byte("after"))
	if !slices.EqualFunc(other, plainPut(l, at), bytes.Equal) {
		t.Errorf("Put became %x when another answer was changed", other)
	}
	puts(t, l, at)
}

// TestNumbersAreTheirOwn changes what Get tells, up to its capacity.
func TestNumbersAreTheirOwn(t *testing.T) {
	l, at := numbers(), places()
	d := stored(t, at, plainPut(l, at)...)
	a, b, _ := list.Get(d, 0, 5)
	c, e, _ := list.Get(d, 0, 5)
	clear(a[:cap(a)])
	if !slices.Equal(b, at) || !slices.Equal(c, l) || !slices.Equal(e, at) {
		t.Errorf("the others became %v, %v, %v when the numbers were changed", b, c, e)
	}
	clear(b[:cap(b)])
	if !slices.Equal(c, l) || !slices.Equal(e, at) {
		t.Errorf("the others became %v, %v when the places were changed", c, e)
	}
	gets(t, d, 0, at, l)
	write(t, d, 0, at, plainPut(run(2, 120, 1), at))
	if !slices.Equal(c, l) || !slices.Equal(e, at) {
		t.Errorf("what was got became %v, %v when its pages were written over", c, e)
	}
}

// TestAnswersHangOnArgumentsAlone asks in other orders, with calls that fail between.
func TestAnswersHangOnArgumentsAlone(t *testing.T) {
	roll := dice(11)
	l, at := numbers(), places()
	d := stored(t, at, plainPut(l, at)...)
	for range 200 {
		m, others := split(roll, roll(300), 8)
		puts(t, m, others)
		notPut(t, m, []int{5, 5})
		refused(t, d, 0, 1000, api.ErrRange)
		refused(t, d, 0, 6, api.ErrSum)
		gets(t, d, 0, at, l)
		gets(t, d, 0, at[2:], l[118:])
		puts(t, l, at)
		own(t, 60, 0, 1)
	}
}

// P11.4

// TestGetOfPut stores lists one beside the other, with pages of other things around them.
func TestGetOfPut(t *testing.T) {
	roll := dice(12)
	for range 40 {
		d := made(t, 1000, 1000)
		for p := range 1000 {
			write(t, d, 0, []int{p}, [][]byte{page(byte(p), "other")})
			write(t, d, 1, []int{p}, [][]byte{part(2+(p+1)%998, run(2, 59, 1)...)})
		}
		rest := drawn(roll, 998)
		var stood, kept [][]int
		for len(rest) > 200 {
			n := roll(180)
			l := slices.Clone(rest[:n])
			slices.Sort(l)
			rest = rest[n:]
			at := rest[:plainNeed(n)+roll(4)]
			rest = rest[len(at):]
			write(t, d, 0, at, puts(t, l, at))
			if len(at) > 0 {
				stood, kept = append(stood, at), append(kept, l)
			}
		}
		for i, l := range kept {
			gets(t, d, 0, stood[i], l)
		}
		d.Sync(0)
		d.Crash(nil)
		for i, l := range kept {
			gets(t, d, 0, stood[i], l)
			refused(t, d, 1, stood[i][0], api.ErrSum) // nothing of the other region was synced
		}
	}
}

// TestPutOfGet puts what was got where it was.
func TestPutOfGet(t *testing.T) {
	roll := dice(13)
	for n := range 900 {
		l, at := split(roll, n, plainNeed(n)+roll(3))
		first := 0
		if len(at) > 0 {
			first = at[0]
		}
		want := plainPut(l, at)
		got, read, e := list.Get(stored(t, at, want...), 0, first)
		if e != api.OK {
			t.Fatalf("Get of %d numbers at %v = %d", n, at, e)
		}
		if again := puts(t, got, read); !slices.EqualFunc(again, want, bytes.Equal) {
			t.Errorf("Put of what was got = %x, want %x", again, want)
		}
	}
}
