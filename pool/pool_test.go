package pool_test

import (
	"iter"
	"math"
	"math/big"
	"slices"
	"testing"

	"jalousie/pool"
)

// The signatures that the chapter lists: another one doesn't compile.
var (
	_ func(pool.Pool, int) bool                          = pool.Check
	_ func(pool.Pool, int) int                           = pool.Room
	_ func(pool.Pool, int, int) (pool.Pool, []int, bool) = pool.Take
	_ func(pool.Pool, uint64, []int) pool.Pool           = pool.Give
	_ func(pool.Pool, uint64, bool) pool.Pool            = pool.Release
	_ func(pool.Pool) int                                = pool.Waiting
	_ func(pool.Pool) []int                              = pool.Listed

	_ = pool.Wait{Txn: uint64(0), Pages: []int(nil)}
	_ = pool.Pool{High: int(0), Free: []int(nil), Wait: []pool.Wait(nil)}
)

// greatest is the greatest version, and half the least one above half of all versions.
const (
	greatest uint64 = math.MaxUint64
	half     uint64 = 1 << 63
)

// alike tells whether two pools are equal. It makes no difference between lists without elements and lists that aren't there.
func alike(p, q pool.Pool) bool {
	return p.High == q.High && slices.Equal(p.Free, q.Free) && slices.EqualFunc(p.Wait, q.Wait, func(v, w pool.Wait) bool {
		return v.Txn == w.Txn && slices.Equal(v.Pages, w.Pages)
	})
}

// twin is the same pool in memory of its own, whose lists have no room behind them.
func twin(p pool.Pool) pool.Pool {
	out := pool.Pool{High: p.High, Free: slices.Clip(slices.Clone(p.Free))}
	for _, w := range p.Wait {
		out.Wait = append(out.Wait, pool.Wait{Txn: w.Txn, Pages: slices.Clip(slices.Clone(w.Pages))})
	}
	out.Wait = slices.Clip(out.Wait)
	return out
}

// listsOf is the lists of pages of a pool.
func listsOf(p pool.Pool) [][]int {
	out := [][]int{p.Free}
	for _, w := range p.Wait {
		out = append(out, w.Pages)
	}
	return out
}

// dice produces numbers below one, which look like chance and are the same for one seed.
func dice(seed uint64) func(below int) int {
	return func(below int) int {
		seed = seed*6364136223846793005 + 1442695040888963407
		return int(seed >> 33 % uint64(below))
	}
}

// A pool, done as the chapter says it, on plain lists.

// ordered is pages in order: the least one that is left, again and again.
func ordered(l []int) []int {
	var out []int
	for rest := slices.Clone(l); len(rest) > 0; {
		out = append(out, cutLeast(&rest))
	}
	return out
}

// cutLeast takes the least page out of a list.
func cutLeast(l *[]int) int {
	at := 0
	for i, page := range *l {
		if page < (*l)[at] {
			at = i
		}
	}
	least := (*l)[at]
	*l = append(slices.Clone((*l)[:at]), (*l)[at+1:]...)
	return least
}

// plainCheck looks at each page beside each one ahead of it.
func plainCheck(p pool.Pool, quota int) bool {
	if p.High < 2 || quota < p.High {
		return false
	}
	for i, w := range p.Wait {
		if len(w.Pages) == 0 {
			return false
		}
		for _, ahead := range p.Wait[:i] {
			if ahead.Txn >= w.Txn {
				return false
			}
		}
	}
	lists := listsOf(p)
	for i, l := range lists {
		for k, page := range l {
			if page < 2 || page > p.High-1 {
				return false
			}
			for _, ahead := range l[:k] {
				if ahead >= page {
					return false
				}
			}
			for _, other := range lists[:i] {
				if slices.Contains(other, page) {
					return false
				}
			}
		}
	}
	return true
}

// exactRoom is the room, however great it is.
func exactRoom(p pool.Pool, quota int) *big.Int {
	room := big.NewInt(int64(len(p.Free)))
	if p.High <= quota {
		room.Add(room, big.NewInt(int64(quota)))
		room.Sub(room, big.NewInt(int64(p.High)))
	}
	return room
}

// plainRoom is the room, or the greatest number if it is greater than that.
func plainRoom(p pool.Pool, quota int) int {
	if room := exactRoom(p, quota); room.IsInt64() {
		return int(room.Int64())
	}
	return math.MaxInt
}

func plainTake(p pool.Pool, quota, many int) (pool.Pool, []int, bool) {
	out := twin(p)
	if many < 0 || big.NewInt(int64(many)).Cmp(exactRoom(p, quota)) > 0 {
		return out, nil, false
	}
	var taken []int
	for range many {
		if len(out.Free) > 0 {
			taken = append(taken, cutLeast(&out.Free))
		} else {
			taken = append(taken, out.High)
			out.High++
		}
	}
	out.Free = ordered(out.Free)
	return out, taken, true
}

func plainGive(p pool.Pool, txn uint64, pages []int) pool.Pool {
	out := twin(p)
	switch n := len(out.Wait); {
	case len(pages) == 0:
	case n > 0 && out.Wait[n-1].Txn == txn:
		out.Wait[n-1].Pages = ordered(append(out.Wait[n-1].Pages, pages...))
	default:
		out.Wait = append(out.Wait, pool.Wait{Txn: txn, Pages: ordered(pages)})
	}
	return out
}

func plainRelease(p pool.Pool, oldest uint64, held bool) pool.Pool {
	out := pool.Pool{High: p.High, Free: slices.Clone(p.Free)}
	for _, w := range twin(p).Wait {
		if !held || w.Txn <= oldest {
			out.Free = append(out.Free, w.Pages...)
		} else {
			out.Wait = append(out.Wait, w)
		}
	}
	out.Free = ordered(out.Free)
	return out
}

func plainWaiting(p pool.Pool) int {
	n := 0
	for _, w := range p.Wait {
		for range w.Pages {
			n++
		}
	}
	return n
}

func plainListed(p pool.Pool) []int {
	return ordered(slices.Concat(listsOf(p)...))
}

// What is asked, and done. Each of these calls a function twice, for the first call may not change what the second one tells, and holds the pool against what it was.

func unchanged(t *testing.T, call string, p, was pool.Pool) {
	t.Helper()
	if !alike(p, was) {
		t.Fatalf("%s changed %v to %v", call, was, p)
	}
}

func check(t *testing.T, p pool.Pool, quota int, want bool) {
	t.Helper()
	was := twin(p)
	for range 2 {
		if got := pool.Check(p, quota); got != want {
			t.Fatalf("Check(%v, %d) = %v, want %v", p, quota, got, want)
		}
	}
	unchanged(t, "Check", p, was)
}

func room(t *testing.T, p pool.Pool, quota, want int) {
	t.Helper()
	was := twin(p)
	for range 2 {
		if got := pool.Room(p, quota); got != want {
			t.Fatalf("Room(%v, %d) = %d, want %d", p, quota, got, want)
		}
	}
	unchanged(t, "Room", p, was)
}

func take(t *testing.T, p pool.Pool, quota, many int, want pool.Pool, pages []int, ok bool) {
	t.Helper()
	was := twin(p)
	for range 2 {
		got, taken, did := pool.Take(p, quota, many)
		if !alike(got, want) || !slices.Equal(taken, pages) || did != ok {
			t.Fatalf("Take(%v, %d, %d) = %v, %v, %v, want %v, %v, %v", p, quota, many, got, taken, did, want, pages, ok)
		}
	}
	unchanged(t, "Take", p, was)
}

func give(t *testing.T, p pool.Pool, txn uint64, pages []int, want pool.Pool) {
	t.Helper()
	was, pagesWere := twin(p), slices.Clone(pages)
	for range 2 {
		if got := pool.Give(p, txn, pages); !alike(got, want) {
			t.Fatalf("Give(%v, %d, %v) = %v, want %v", p, txn, pages, got, want)
		}
	}
	unchanged(t, "Give", p, was)
	if !slices.Equal(pages, pagesWere) {
		t.Fatalf("Give changed %v to %v", pagesWere, pages)
	}
}

func release(t *testing.T, p pool.Pool, oldest uint64, held bool, want pool.Pool) {
	t.Helper()
	was := twin(p)
	for range 2 {
		if got := pool.Release(p, oldest, held); !alike(got, want) {
			t.Fatalf("Release(%v, %d, %v) = %v, want %v", p, oldest, held, got, want)
		}
	}
	unchanged(t, "Release", p, was)
}

func waiting(t *testing.T, p pool.Pool, want int) {
	t.Helper()
	was := twin(p)
	for range 2 {
		if got := pool.Waiting(p); got != want {
			t.Fatalf("Waiting(%v) = %d, want %d", p, got, want)
		}
	}
	unchanged(t, "Waiting", p, was)
}

func listed(t *testing.T, p pool.Pool, want []int) {
	t.Helper()
	was := twin(p)
	for range 2 {
		if got := pool.Listed(p); !slices.Equal(got, want) {
			t.Fatalf("Listed(%v) = %v, want %v", p, got, want)
		}
	}
	unchanged(t, "Listed", p, was)
}

// asChapterTakes, and the next two, hold a call against the plain lists, and what is asked of the pool that it returned too.

func asChapterTakes(t *testing.T, p pool.Pool, quota, many int) {
	t.Helper()
	want, pages, ok := plainTake(p, quota, many)
	take(t, p, quota, many, want, pages, ok)
	asked(t, want, quota)
}

func asChapterGives(t *testing.T, p pool.Pool, txn uint64, pages []int) {
	t.Helper()
	want := plainGive(p, txn, pages)
	give(t, p, txn, pages, want)
	asked(t, want, p.High)
}

func asChapterReleases(t *testing.T, p pool.Pool, oldest uint64, held bool) {
	t.Helper()
	want := plainRelease(p, oldest, held)
	release(t, p, oldest, held, want)
	asked(t, want, p.High)
}

// asked holds what is told of a pool, with quotas beside one and beside its High.
func asked(t *testing.T, p pool.Pool, quota int) {
	t.Helper()
	for _, q := range []int{quota, quota - 1, quota + 1, p.High - 1, p.High, p.High + 1, p.High + 7, 0, 1000} {
		check(t, p, q, plainCheck(p, q))
		room(t, p, q, plainRoom(p, q))
	}
	waiting(t, p, plainWaiting(p))
	listed(t, p, plainListed(p))
}

// Pools.

// good is pools that may be, with a quota of their High and of more.
func good() []pool.Pool {
	return []pool.Pool{
		{High: 2},
		{High: 2, Free: []int{}, Wait: []pool.Wait{}},
		{High: 3},
		{High: 3, Free: []int{2}},
		{High: 3, Wait: []pool.Wait{{Txn: 1, Pages: []int{2}}}},
		{High: 3, Wait: []pool.Wait{{Pages: []int{2}}}},
		{High: 5, Free: []int{3}},
		{High: 5, Free: []int{2, 4}},
		{High: 5, Free: []int{2, 3, 4}},
		{High: 5, Wait: []pool.Wait{{Txn: greatest, Pages: []int{2, 3, 4}}}},
		{High: 5, Free: []int{3}, Wait: []pool.Wait{{Txn: 6, Pages: []int{2, 4}}}},
		{High: 9, Free: []int{5}, Wait: []pool.Wait{{Txn: 3, Pages: []int{4, 8}}, {Txn: 4, Pages: []int{2, 7}}}},
		{High: 9, Wait: []pool.Wait{{Txn: 0, Pages: []int{8}}, {Txn: 7, Pages: []int{2}}, {Txn: 8, Pages: []int{5}}}},
		{High: 9, Wait: []pool.Wait{{Txn: 0, Pages: []int{8}}, {Txn: half - 1, Pages: []int{2}}, {Txn: half, Pages: []int{5}}, {Txn: greatest, Pages: []int{4}}}},
		{High: 20, Free: []int{3, 6, 9, 12, 19}, Wait: []pool.Wait{{Txn: 1, Pages: []int{2, 11, 18}}, {Txn: 4, Pages: []int{10}}, {Txn: 5, Pages: []int{4, 5}}}},
		{High: 1000, Free: []int{2, 500, 999}, Wait: []pool.Wait{{Txn: 1 << 32, Pages: []int{3, 998}}, {Txn: 1<<32 + 1, Pages: []int{4, 997}}}},
		{High: 300, Free: row(2, 100), Wait: []pool.Wait{{Txn: 2, Pages: row(200, 100)}, {Txn: 3, Pages: row(102, 98)}}},
		comb(1000),
	}
}

// row is pages on end.
func row(from, many int) []int {
	l := make([]int, many)
	for i := range l {
		l[i] = from + i
	}
	return l
}

// comb is a pool of so many pages, each of which is free or waits, in the lists in turn.
func comb(high int) pool.Pool {
	p := pool.Pool{High: high}
	for txn := range uint64(6) {
		p.Wait = append(p.Wait, pool.Wait{Txn: 10 * txn})
	}
	for page := 2; page < high; page++ {
		if i := page % 7; i < 6 {
			p.Wait[i].Pages = append(p.Wait[i].Pages, page)
		} else {
			p.Free = append(p.Free, page)
		}
	}
	return p
}

// wild is pools that may not be.
func wild() []pool.Pool {
	return []pool.Pool{
		{},
		{High: 1},
		{High: -1, Free: []int{-3, -2}},
		{High: math.MinInt},
		{High: math.MinInt, Free: []int{math.MinInt, math.MaxInt, 0}},
		{High: math.MaxInt, Free: []int{math.MaxInt, math.MinInt, math.MaxInt}},
		{High: 5, Free: []int{4, 2, 3}},
		{High: 5, Free: []int{4, 3, 2}},
		{High: 5, Free: []int{3, 3}},
		{High: 5, Free: []int{4, 2, 4, 2, 4}},
		{High: 5, Free: []int{7, 0, 1, 5, -4}},
		{High: 5, Wait: []pool.Wait{{}}},
		{High: 5, Wait: []pool.Wait{{Txn: 3}, {Txn: 3, Pages: []int{}}, {Txn: 4}}},
		{High: 5, Free: []int{3, 2}, Wait: []pool.Wait{{Txn: 3}, {Txn: 5, Pages: []int{4}}}},
		{High: 9, Free: []int{8, 3}, Wait: []pool.Wait{{Txn: 5, Pages: []int{7, 2}}, {Txn: 5, Pages: []int{6, 4}}}},
		{High: 9, Free: []int{3}, Wait: []pool.Wait{{Txn: 5, Pages: []int{7}}, {Txn: 2, Pages: []int{6, 4}}, {Txn: 9, Pages: []int{2}}, {Txn: 0, Pages: []int{8}}}},
		{High: 9, Wait: []pool.Wait{{Txn: 9, Pages: []int{4}}, {Txn: 8, Pages: []int{5}}, {Txn: 7, Pages: []int{6}}, {Txn: 6, Pages: []int{7}}}},
		{High: 9, Wait: []pool.Wait{{Txn: 1, Pages: []int{8}}, {Txn: 3, Pages: []int{2}}, {Txn: 1, Pages: []int{5}}, {Txn: 3, Pages: []int{4}}, {Txn: 1, Pages: []int{3}}}},
		{High: 9, Free: []int{4, 5}, Wait: []pool.Wait{{Txn: 1, Pages: []int{5, 4}}, {Txn: 2, Pages: []int{4, 4}}}},
		{High: 9, Free: []int{4, 5}, Wait: []pool.Wait{{Txn: greatest, Pages: []int{-4, 9}}, {Txn: half, Pages: []int{1}}, {Txn: 0, Pages: []int{math.MinInt, math.MaxInt}}}},
		{High: 9, Wait: []pool.Wait{{Txn: half, Pages: []int{7}}, {Txn: half - 1, Pages: []int{6}}, {Txn: greatest, Pages: []int{8}}, {Txn: half + 1, Pages: []int{5}}}},
	}
}

// pools is all of these.
func pools() []pool.Pool { return append(good(), wild()...) }

// versions is numbers of versions beside those of a pool, and some in any case.
func versions(p pool.Pool) []uint64 {
	out := []uint64{0, 1, half - 1, half, half + 1, greatest - 1, greatest}
	for _, w := range p.Wait {
		out = append(out, w.Txn-1, w.Txn, w.Txn+1)
	}
	slices.Sort(out)
	return slices.Compact(out)
}

// quotas is quotas beside a pool's High, and some in any case.
func quotas(p pool.Pool) []int {
	return []int{p.High - 3, p.High - 1, p.High, p.High + 1, p.High + 4, p.High + 70, 4, 0, -1, -1000, 1000, 1 << 32, math.MinInt, math.MinInt + 1, math.MaxInt - 1, math.MaxInt}
}

// P13.1

func TestCheckOfGood(t *testing.T) {
	for _, p := range good() {
		for _, more := range []int{0, 1, 2, 1000} {
			check(t, p, p.High+more, true)
		}
		check(t, p, math.MaxInt, true)
		for _, quota := range []int{p.High - 1, p.High - 2, 1, 0, -1, -p.High, math.MinInt} {
			check(t, p, quota, false)
		}
	}
}

// TestCheckOfHigh has pools without pages, and each High beside each quota.
func TestCheckOfHigh(t *testing.T) {
	for high := -3; high < 12; high++ {
		for quota := -3; quota < 12; quota++ {
			check(t, pool.Pool{High: high}, quota, 2 <= high && high <= quota)
		}
	}
	for _, high := range []int{math.MinInt, math.MinInt + 2, -1 << 32, 1<<32 + 2, math.MaxInt - 1, math.MaxInt} {
		for _, quota := range []int{math.MinInt, math.MinInt + 2, -1, 0, 2, 40, 1 << 32, 1<<32 + 2, math.MaxInt - 1, math.MaxInt} {
			check(t, pool.Pool{High: high}, quota, 2 <= high && high <= quota)
		}
	}
	check(t, pool.Pool{High: math.MaxInt, Free: []int{2, math.MaxInt - 1}}, math.MaxInt, true)
	check(t, pool.Pool{High: math.MaxInt, Free: []int{2, math.MaxInt}}, math.MaxInt, false)
	check(t, pool.Pool{High: math.MinInt, Free: []int{2}}, math.MaxInt, false)
}

// TestCheckOfOneFault has what the promise rules out, one at a time: beside it the pool may be.
func TestCheckOfOneFault(t *testing.T) {
	base := func() pool.Pool {
		return pool.Pool{High: 10, Free: []int{3, 5, 8}, Wait: []pool.Wait{{Txn: 4, Pages: []int{2, 7}}, {Txn: 6, Pages: []int{9}}}}
	}
	check(t, base(), 10, true)
	for name, change := range map[string]func(p *pool.Pool){
		"High of 1":                             func(p *pool.Pool) { *p = pool.Pool{High: 1} },
		"High above the quota":                  func(p *pool.Pool) { p.High = 11 },
		"High ahead of what is free":            func(p *pool.Pool) { *p = pool.Pool{High: 8, Free: []int{3, 5, 8}} },
		"High ahead of what waits":              func(p *pool.Pool) { p.High = 9 },
		"Free that falls at its end":            func(p *pool.Pool) { p.Free = []int{3, 8, 5} },
		"Free that falls at its beginning":      func(p *pool.Pool) { p.Free = []int{5, 3, 8} },
		"Free with a page twice":                func(p *pool.Pool) { p.Free = []int{3, 5, 5} },
		"Free with a page twice, not on end":    func(p *pool.Pool) { p.Free = []int{3, 5, 3} },
		"Free with a page of 1":                 func(p *pool.Pool) { p.Free = []int{1, 3, 5} },
		"Free with a page of 0":                 func(p *pool.Pool) { p.Free = []int{0} },
		"Free with a negative page":             func(p *pool.Pool) { p.Free = []int{-1, 3} },
		"Free with the least page":              func(p *pool.Pool) { p.Free = []int{math.MinInt, 3} },
		"Free with a page of High":              func(p *pool.Pool) { p.Free = []int{3, 5, 10} },
		"Free with a page above High":           func(p *pool.Pool) { p.Free = []int{3, 5, 11} },
		"Free with the greatest page":           func(p *pool.Pool) { p.Free = []int{math.MaxInt} },
		"a Txn twice":                           func(p *pool.Pool) { p.Wait[1].Txn = 4 },
		"a Txn that falls":                      func(p *pool.Pool) { p.Wait[1].Txn = 3 },
		"a Txn that falls, above half":          func(p *pool.Pool) { p.Wait[0].Txn = half },
		"a Txn that falls from the greatest":    func(p *pool.Pool) { p.Wait[0].Txn, p.Wait[1].Txn = greatest, 0 },
		"a Txn of the first, the third":         func(p *pool.Pool) { p.Wait = append(p.Wait, pool.Wait{Txn: 4, Pages: []int{4}}) },
		"an element without pages":              func(p *pool.Pool) { p.Wait[0].Pages = nil },
		"an element without pages at the end":   func(p *pool.Pool) { p.Wait[1].Pages = []int{} },
		"a lone element without pages":          func(p *pool.Pool) { p.Wait = []pool.Wait{{Txn: 4}} },
		"Pages that fall":                       func(p *pool.Pool) { p.Wait[0].Pages = []int{7, 2} },
		"Pages that fall in the last":           func(p *pool.Pool) { p.Wait[1].Pages = []int{6, 9, 4} },
		"Pages with a page twice":               func(p *pool.Pool) { p.Wait[0].Pages = []int{2, 2} },
		"Pages with a page twice, in the last":  func(p *pool.Pool) { p.Wait[1].Pages = []int{9, 9} },
		"Pages with a page of 1":                func(p *pool.Pool) { p.Wait[0].Pages = []int{1, 7} },
		"Pages with a page of 0, in the last":   func(p *pool.Pool) { p.Wait[1].Pages = []int{0} },
		"Pages with a negative page":            func(p *pool.Pool) { p.Wait[1].Pages = []int{-9, 9} },
		"Pages with a page of High":             func(p *pool.Pool) { p.Wait[0].Pages = []int{2, 10} },
		"Pages with a page above High":          func(p *pool.Pool) { p.Wait[1].Pages = []int{11} },
		"a page that is free and waits":         func(p *pool.Pool) { p.Wait[0].Pages = []int{2, 5} },
		"a page that is free and waits, last":   func(p *pool.Pool) { p.Wait[1].Pages = []int{8, 9} },
		"a page that is free and waits, first":  func(p *pool.Pool) { p.Free = []int{2, 3} },
		"a page in two elements":                func(p *pool.Pool) { p.Wait[1].Pages = []int{7, 9} },
		"a page in two elements, not on end":    func(p *pool.Pool) { p.Wait = append(p.Wait, pool.Wait{Txn: 7, Pages: []int{2, 4}}) },
		"all pages of one element in the other": func(p *pool.Pool) { p.Wait[1].Pages = []int{2, 7} },
	} {
		p := base()
		change(&p)
		if plainCheck(p, 10) {
			t.Fatalf("%s: the pool may be", name)
		}
		if pool.Check(p, 10) {
			t.Errorf("%s: Check(%v, 10) = true", name, p)
		}
	}
}

// lists is all lists of up to so many numbers below one.
func lists(most, below int) [][]int {
	out := [][]int{nil}
	for from := 0; most > 0; most-- {
		to := len(out)
		for _, l := range out[from:to] {
			for page := range below {
				out = append(out, append(slices.Clone(l), page))
			}
		}
		from = to
	}
	return out
}

// TestCheckOfAllSmall has all pools with lists of up to two of five pages and up to two elements of two versions.
func TestCheckOfAllSmall(t *testing.T) {
	some := lists(2, 5)
	waits := [][]pool.Wait{nil}
	for _, l := range some {
		for txn := range uint64(2) {
			w := pool.Wait{Txn: txn, Pages: l}
			waits = append(waits, []pool.Wait{w})
			for _, k := range some {
				for second := range uint64(2) {
					waits = append(waits, []pool.Wait{w, {Txn: second, Pages: k}})
				}
			}
		}
	}
	accepted := 0
	for _, free := range some {
		for _, wait := range waits {
			for high := 1; high < 7; high++ {
				p := pool.Pool{High: high, Free: free, Wait: wait}
				want := plainCheck(p, 5)
				if got := pool.Check(p, 5); got != want {
					t.Fatalf("Check(%v, 5) = %v, want %v", p, got, want)
				}
				if want {
					accepted++
				}
			}
		}
	}
	if accepted < 80 {
		t.Fatalf("only %d pools may be", accepted)
	}
}

// TestCheckOfEachPage puts each page that is in a list of a good pool elsewhere.
func TestCheckOfEachPage(t *testing.T) {
	for _, p := range []pool.Pool{good()[10], good()[11], good()[14], comb(40)} {
		check(t, p, p.High, true)
		q := twin(p)
		for _, l := range listsOf(q) {
			for i, was := range l {
				for page := -2; page < p.High+3; page++ {
					l[i] = page
					check(t, q, p.High, plainCheck(q, p.High))
				}
				l[i] = was
			}
		}
		for i, w := range q.Wait {
			for _, v := range versions(p) {
				q.Wait[i].Txn = v
				check(t, q, p.High, plainCheck(q, p.High))
			}
			q.Wait[i] = w
		}
	}
}

// P13.2

func TestRoomKnown(t *testing.T) {
	for _, x := range []struct {
		p           pool.Pool
		quota, want int
	}{
		{pool.Pool{High: 5, Free: []int{3}}, 6, 2},
		{pool.Pool{High: 5, Free: []int{3}}, 5, 1},
		{pool.Pool{High: 5, Free: []int{3}}, 4, 1},
		{pool.Pool{High: 5, Free: []int{3}}, -9, 1},
		{pool.Pool{High: 5, Free: []int{4, 2, 3}}, 1000, 998},
		{pool.Pool{High: 5, Free: []int{4, 4, 4, 4}}, 5, 4},
		{pool.Pool{High: 2}, 1000, 998},
		{pool.Pool{High: 2}, 2, 0},
		{pool.Pool{High: 2}, 0, 0},
		{pool.Pool{}, 7, 7},
		{pool.Pool{High: 7, Wait: []pool.Wait{{Txn: 1, Pages: []int{2, 3, 4}}}}, 7, 0},
		{pool.Pool{High: 7, Free: []int{5, 6}, Wait: []pool.Wait{{Txn: 1, Pages: []int{2, 3, 4}}}}, 10, 5},
		{pool.Pool{High: -3, Free: []int{-5}}, 4, 8},
		{pool.Pool{High: -3, Free: []int{-5}}, -3, 1},
		{pool.Pool{High: -3, Free: []int{-5}}, -2, 2},
		{pool.Pool{High: -3, Free: []int{-5}}, -4, 1},
		{pool.Pool{High: 5}, math.MaxInt, math.MaxInt - 5},
		{pool.Pool{High: 5, Free: []int{2, 3, 4}}, math.MaxInt, math.MaxInt - 2},
		{pool.Pool{High: 5, Free: []int{2, 3, 4}}, math.MinInt, 3},
		{pool.Pool{High: math.MinInt}, math.MinInt, 0},
		{pool.Pool{High: math.MinInt, Free: []int{1, 2}}, math.MinInt + 3, 5},
		{pool.Pool{High: math.MinInt}, -1, math.MaxInt},
		{pool.Pool{High: math.MaxInt, Free: []int{1}}, math.MaxInt, 1},
		{pool.Pool{High: math.MaxInt, Free: []int{1}}, math.MinInt, 1},
		{pool.Pool{High: math.MaxInt - 4, Free: []int{1}}, math.MaxInt, 5},
	} {
		room(t, x.p, x.quota, x.want)
	}
}

func TestRoomOfEachHigh(t *testing.T) {
	for high := -4; high < 30; high++ {
		for quota := -4; quota < 30; quota++ {
			for _, free := range [][]int{nil, {2}, {5, 2, 9}, {3, 3}} {
				p := pool.Pool{High: high, Free: free}
				room(t, p, quota, plainRoom(p, quota))
			}
		}
	}
}

// TestRoomOfGreatNumbers has quotas and Highs between which there are more pages than an int can tell.
func TestRoomOfGreatNumbers(t *testing.T) {
	for _, p := range pools() {
		for _, quota := range quotas(p) {
			room(t, p, quota, plainRoom(p, quota))
		}
	}
	for _, x := range []struct {
		high, quota int
	}{{math.MinInt, math.MaxInt}, {math.MinInt, 0}, {-1, math.MaxInt}, {-2, math.MaxInt - 1}, {math.MinInt + 5, 6}} {
		p := pool.Pool{High: x.high, Free: []int{7, 6}}
		room(t, p, x.quota, math.MaxInt)
		take(t, p, x.quota, 0, pool.Pool{High: x.high, Free: []int{6, 7}}, nil, true)
		take(t, p, x.quota, 1, pool.Pool{High: x.high, Free: []int{7}}, []int{6}, true)
		take(t, p, x.quota, 4, pool.Pool{High: x.high + 2}, []int{6, 7, x.high, x.high + 1}, true)
		take(t, p, x.quota, -1, p, nil, false)
	}
}

func TestTakeExample(t *testing.T) {
	take(t, pool.Pool{High: 5, Free: []int{3}}, 6, 2, pool.Pool{High: 6}, []int{3, 5}, true)
}

func TestTakeKnown(t *testing.T) {
	wait := []pool.Wait{{Txn: 4, Pages: []int{6}}, {Txn: 2, Pages: []int{5, 4}}}
	p := pool.Pool{High: 8, Free: []int{7, 2, 3}, Wait: wait}
	for _, x := range []struct {
		quota, many int
		want        pool.Pool
		pages       []int
		ok          bool
	}{
		{10, 0, pool.Pool{High: 8, Free: []int{2, 3, 7}, Wait: wait}, nil, true},
		{10, 1, pool.Pool{High: 8, Free: []int{3, 7}, Wait: wait}, []int{2}, true},
		{10, 2, pool.Pool{High: 8, Free: []int{7}, Wait: wait}, []int{2, 3}, true},
		{10, 3, pool.Pool{High: 8, Wait: wait}, []int{2, 3, 7}, true},
		{10, 4, pool.Pool{High: 9, Wait: wait}, []int{2, 3, 7, 8}, true},
		{10, 5, pool.Pool{High: 10, Wait: wait}, []int{2, 3, 7, 8, 9}, true},
		{10, 6, p, nil, false},
		{10, math.MaxInt, p, nil, false},
		{10, -1, p, nil, false},
		{10, math.MinInt, p, nil, false},
		{8, 3, pool.Pool{High: 8, Wait: wait}, []int{2, 3, 7}, true},
		{8, 4, p, nil, false},
		{7, 0, pool.Pool{High: 8, Free: []int{2, 3, 7}, Wait: wait}, nil, true},
		{7, 2, pool.Pool{High: 8, Free: []int{7}, Wait: wait}, []int{2, 3}, true},
		{7, 3, pool.Pool{High: 8, Wait: wait}, []int{2, 3, 7}, true},
		{7, 4, p, nil, false},
		{0, 1, pool.Pool{High: 8, Free: []int{3, 7}, Wait: wait}, []int{2}, true},
		{-5, 3, pool.Pool{High: 8, Wait: wait}, []int{2, 3, 7}, true},
		{math.MinInt, 4, p, nil, false},
		{math.MinInt, 3, pool.Pool{High: 8, Wait: wait}, []int{2, 3, 7}, true},
		{math.MaxInt, 5, pool.Pool{High: 10, Wait: wait}, []int{2, 3, 7, 8, 9}, true},
		{math.MaxInt, math.MaxInt, p, nil, false},
	} {
		take(t, p, x.quota, x.many, x.want, x.pages, x.ok)
	}
}

// TestTakeOfPagesTwice has a page twice in Free: it is taken once for each time.
func TestTakeOfPagesTwice(t *testing.T) {
	p := pool.Pool{High: 5, Free: []int{4, 2, 4, 2}}
	take(t, p, 5, 0, pool.Pool{High: 5, Free: []int{2, 2, 4, 4}}, nil, true)
	take(t, p, 5, 1, pool.Pool{High: 5, Free: []int{2, 4, 4}}, []int{2}, true)
	take(t, p, 5, 2, pool.Pool{High: 5, Free: []int{4, 4}}, []int{2, 2}, true)
	take(t, p, 5, 3, pool.Pool{High: 5, Free: []int{4}}, []int{2, 2, 4}, true)
	take(t, p, 5, 4, pool.Pool{High: 5}, []int{2, 2, 4, 4}, true)
	take(t, p, 5, 5, p, nil, false)
	take(t, p, 6, 5, pool.Pool{High: 6}, []int{2, 2, 4, 4, 5}, true)
	// What waits, or is above High, is not taken away from anywhere else.
	p = pool.Pool{High: 5, Free: []int{5, 3}, Wait: []pool.Wait{{Txn: 1, Pages: []int{3, 5}}}}
	take(t, p, 7, 3, pool.Pool{High: 6, Wait: p.Wait}, []int{3, 5, 5}, true)
}

func TestTakeOfWildPages(t *testing.T) {
	p := pool.Pool{High: -2, Free: []int{math.MaxInt, 0, math.MinInt, -7}}
	take(t, p, -2, 2, pool.Pool{High: -2, Free: []int{0, math.MaxInt}}, []int{math.MinInt, -7}, true)
	take(t, p, 1, 7, pool.Pool{High: 1}, []int{math.MinInt, -7, 0, math.MaxInt, -2, -1, 0}, true)
	take(t, p, 1, 8, p, nil, false)
	p = pool.Pool{High: math.MaxInt - 2, Free: []int{9}}
	take(t, p, math.MaxInt, 3, pool.Pool{High: math.MaxInt}, []int{9, math.MaxInt - 2, math.MaxInt - 1}, true)
	take(t, p, math.MaxInt, 4, p, nil, false)
}

// TestTakeOfEachNumber takes as many as there are, one less and one more, of each pool.
func TestTakeOfEachNumber(t *testing.T) {
	for _, p := range pools() {
		for _, quota := range quotas(p) {
			free, all := len(p.Free), plainRoom(p, quota)
			for _, many := range []int{math.MinInt, -1, 0, 1, 2, 3, free - 1, free, free + 1, free + 2, all - 1, all, all + 1, math.MaxInt} {
				if many > 2000 && many <= all {
					continue // so many that they needn't be told
				}
				asChapterTakes(t, p, quota, many)
			}
		}
	}
}

// TestTakeOfAllSmall has all Frees of up to four of five pages.
func TestTakeOfAllSmall(t *testing.T) {
	for _, free := range lists(4, 5) {
		for high := 3; high < 6; high++ {
			p := pool.Pool{High: high, Free: free, Wait: []pool.Wait{{Txn: 1, Pages: []int{4, 3}}}}
			for many := -1; many < 8; many++ {
				want, pages, ok := plainTake(p, 5, many)
				take(t, p, 5, many, want, pages, ok)
			}
		}
	}
}

// TestTakeOfMany takes more pages than a label has.
func TestTakeOfMany(t *testing.T) {
	const many = 1 << 17
	p, taken, ok := pool.Take(pool.Pool{High: 7, Free: []int{6, 3}}, 1<<20, many)
	if want := append([]int{3, 6}, row(7, many-2)...); !ok || !slices.Equal(taken, want) || !alike(p, pool.Pool{High: 5 + many}) {
		t.Fatalf("Take of %d: %d pages, High %d, %v", many, len(taken), p.High, ok)
	}
	p, taken, ok = pool.Take(pool.Pool{High: many, Free: row(2, many-2)}, 2, 3)
	if !ok || !slices.Equal(taken, []int{2, 3, 4}) || !alike(p, pool.Pool{High: many, Free: row(5, many-5)}) {
		t.Fatalf("Take of 3: %v, %d are left, High %d, %v", taken, len(p.Free), p.High, ok)
	}
}

// P13.3

func TestGiveKnown(t *testing.T) {
	wait := func(last ...int) []pool.Wait {
		return []pool.Wait{{Txn: 3, Pages: []int{6}}, {Txn: 5, Pages: last}}
	}
	p := pool.Pool{High: 20, Free: []int{9, 4}, Wait: wait(8, 2)}
	with := func(w ...pool.Wait) pool.Pool { return pool.Pool{High: 20, Free: []int{9, 4}, Wait: w} }
	for _, x := range []struct {
		txn   uint64
		pages []int
		want  pool.Pool
	}{
		{7, nil, p},
		{7, []int{}, p},
		{5, nil, p},
		{5, []int{}, p},
		{0, nil, p},
		// of a greater Txn
		{6, []int{12}, with(append(wait(8, 2), pool.Wait{Txn: 6, Pages: []int{12}})...)},
		{6, []int{12, 11, 15, 3}, with(append(wait(8, 2), pool.Wait{Txn: 6, Pages: []int{3, 11, 12, 15}})...)},
		{greatest, []int{3, 5}, with(append(wait(8, 2), pool.Wait{Txn: greatest, Pages: []int{3, 5}})...)},
		// of the last one's Txn again: its own pages are put in order too
		{5, []int{12}, with(wait(2, 8, 12)...)},
		{5, []int{12, 1, 5}, with(wait(1, 2, 5, 8, 12)...)},
		{5, []int{7, 3}, with(wait(2, 3, 7, 8)...)},
		// of a smaller Txn: it comes behind the last one all the same
		{4, []int{12, 7}, with(append(wait(8, 2), pool.Wait{Txn: 4, Pages: []int{7, 12}})...)},
		{3, []int{12}, with(append(wait(8, 2), pool.Wait{Txn: 3, Pages: []int{12}})...)},
		{0, []int{12}, with(append(wait(8, 2), pool.Wait{Txn: 0, Pages: []int{12}})...)},
		// of pages that are there already: once for each time
		{5, []int{8, 2}, with(wait(2, 2, 8, 8)...)},
		{5, []int{9, 9, 6}, with(wait(2, 6, 8, 9, 9)...)},
		{6, []int{9, 4, 9}, with(append(wait(8, 2), pool.Wait{Txn: 6, Pages: []int{4, 9, 9}})...)},
		{6, []int{6, 8}, with(append(wait(8, 2), pool.Wait{Txn: 6, Pages: []int{6, 8}})...)},
		// of pages that can't be
		{6, []int{20, -1, 0, 25}, with(append(wait(8, 2), pool.Wait{Txn: 6, Pages: []int{-1, 0, 20, 25}})...)},
		{5, []int{math.MaxInt, math.MinInt}, with(wait(math.MinInt, 2, 8, math.MaxInt)...)},
	} {
		give(t, p, x.txn, x.pages, x.want)
	}
}

func TestGiveToNone(t *testing.T) {
	for _, txn := range []uint64{0, 1, half, greatest} { // a Txn of 0 is one like any other
		for _, p := range []pool.Pool{{}, {High: 9}, {High: 9, Wait: []pool.Wait{}}, {High: 9, Free: []int{3}}} {
			want := twin(p)
			want.Wait = []pool.Wait{{Txn: txn, Pages: []int{4, 7}}}
			give(t, p, txn, []int{7, 4}, want)
			give(t, want, txn, []int{5}, pool.Pool{High: p.High, Free: p.Free, Wait: []pool.Wait{{Txn: txn, Pages: []int{4, 5, 7}}}})
		}
	}
	// The last element has that Txn, and no pages.
	give(t, pool.Pool{Wait: []pool.Wait{{Txn: 3}}}, 3, []int{7, 4}, pool.Pool{Wait: []pool.Wait{{Txn: 3, Pages: []int{4, 7}}}})
	give(t, pool.Pool{Wait: []pool.Wait{{Txn: 3}}}, 4, []int{7, 4}, pool.Pool{Wait: []pool.Wait{{Txn: 3}, {Txn: 4, Pages: []int{4, 7}}}})
	give(t, pool.Pool{Wait: []pool.Wait{{}}}, 0, []int{7, 4}, pool.Pool{Wait: []pool.Wait{{Pages: []int{4, 7}}}})
}

func TestGiveOfEach(t *testing.T) {
	for _, p := range pools() {
		for _, txn := range versions(p) {
			for _, pages := range [][]int{nil, {}, {4}, {9, 3, 7}, {6, 6}, {8, 4, 8, -1}, {p.High, p.High - 1, 2}, p.Free, plainListed(p), {math.MaxInt, 0, math.MinInt}} {
				asChapterGives(t, p, txn, pages)
			}
		}
	}
}

// TestGiveOfAllSmall gives all lists of up to four of five pages, in each order that there is.
func TestGiveOfAllSmall(t *testing.T) {
	for _, pages := range lists(4, 5) {
		for _, p := range []pool.Pool{{}, {High: 5, Wait: []pool.Wait{{Txn: 2, Pages: []int{3, 1}}}}} {
			for txn := uint64(1); txn < 4; txn++ {
				give(t, p, txn, pages, plainGive(p, txn, pages))
			}
		}
	}
}

func TestReleaseKnown(t *testing.T) {
	one, three, five := pool.Wait{Txn: 1, Pages: []int{7}}, pool.Wait{Txn: 3, Pages: []int{2, 9}}, pool.Wait{Txn: 5, Pages: []int{3, 6}}
	p := pool.Pool{High: 10, Free: []int{4, 8}, Wait: []pool.Wait{one, three, five}}
	none := p
	first := pool.Pool{High: 10, Free: []int{4, 7, 8}, Wait: []pool.Wait{three, five}}
	two := pool.Pool{High: 10, Free: []int{2, 4, 7, 8, 9}, Wait: []pool.Wait{five}}
	all := pool.Pool{High: 10, Free: []int{2, 3, 4, 6, 7, 8, 9}}
	for oldest, want := range map[uint64]pool.Pool{0: none, 1: first, 2: first, 3: two, 4: two, 5: all, 6: all, half: all, greatest: all} {
		release(t, p, oldest, true, want)
		release(t, p, oldest, false, all) // no version is held, whatever is told of the oldest one
	}
}

// TestReleaseOfNoOrder has elements that don't rise: each is looked at by its own Txn, and those that stay keep their order.
func TestReleaseOfNoOrder(t *testing.T) {
	a, b, c, d := pool.Wait{Txn: 6, Pages: []int{9, 5}}, pool.Wait{Txn: 2, Pages: []int{8}}, pool.Wait{Txn: 4, Pages: []int{3, 4}}, pool.Wait{Txn: 2, Pages: []int{7, 2}}
	p := pool.Pool{High: 10, Free: []int{6}, Wait: []pool.Wait{a, b, c, d}}
	release(t, p, 1, true, p)
	release(t, p, 2, true, pool.Pool{High: 10, Free: []int{2, 6, 7, 8}, Wait: []pool.Wait{a, c}})
	release(t, p, 3, true, pool.Pool{High: 10, Free: []int{2, 6, 7, 8}, Wait: []pool.Wait{a, c}})
	release(t, p, 4, true, pool.Pool{High: 10, Free: []int{2, 3, 4, 6, 7, 8}, Wait: []pool.Wait{a}})
	release(t, p, 5, true, pool.Pool{High: 10, Free: []int{2, 3, 4, 6, 7, 8}, Wait: []pool.Wait{a}})
	all := pool.Pool{High: 10, Free: []int{2, 3, 4, 5, 6, 7, 8, 9}}
	release(t, p, 6, true, all)
	release(t, p, greatest, true, all)
	for _, oldest := range []uint64{0, 2, 5, 6, greatest} {
		release(t, p, oldest, false, all)
	}
}

// TestReleaseSortsFree has a Free that is in no order, with a page twice, and nothing to release, or pages that are free already.
func TestReleaseSortsFree(t *testing.T) {
	for _, held := range []bool{false, true} {
		release(t, pool.Pool{High: 9, Free: []int{8, 2, 8, 5}}, 4, held, pool.Pool{High: 9, Free: []int{2, 5, 8, 8}})
		release(t, pool.Pool{High: 9, Free: []int{8, 2, 5}, Wait: []pool.Wait{{Txn: 3, Pages: []int{5, 8, 5}}}}, 4, held, pool.Pool{High: 9, Free: []int{2, 5, 5, 5, 8, 8}})
		release(t, pool.Pool{High: 9, Free: []int{8, math.MinInt}, Wait: []pool.Wait{{Txn: 3, Pages: []int{math.MaxInt, -1}}, {Txn: 4}}}, 4, held, pool.Pool{High: 9, Free: []int{math.MinInt, -1, 8, math.MaxInt}})
	}
	stays := []pool.Wait{{Txn: 7, Pages: []int{4, 3, 4}}, {Txn: 6}}
	release(t, pool.Pool{High: 9, Free: []int{8, 2, 5}, Wait: stays}, 5, true, pool.Pool{High: 9, Free: []int{2, 5, 8}, Wait: stays})
	release(t, pool.Pool{}, 0, true, pool.Pool{})
	release(t, pool.Pool{}, 0, false, pool.Pool{})
}

func TestReleaseOfEach(t *testing.T) {
	for _, p := range pools() {
		for _, oldest := range versions(p) {
			asChapterReleases(t, p, oldest, true)
			asChapterReleases(t, p, oldest, false)
		}
	}
}

// TestReleaseOfAllOrders has all rows of up to five versions of four.
func TestReleaseOfAllOrders(t *testing.T) {
	for _, txns := range lists(5, 4) {
		p := pool.Pool{High: 20, Free: []int{15, 11}}
		for i, txn := range txns {
			p.Wait = append(p.Wait, pool.Wait{Txn: uint64(txn), Pages: []int{18 - 3*i, 2 + i}})
		}
		for oldest := range uint64(5) {
			release(t, p, oldest, true, plainRelease(p, oldest, true))
		}
		release(t, p, 1, false, plainRelease(p, 1, false))
	}
}

// TestReleaseOfMany has more elements than a row that is searched by halves is likely to get right by chance, in order and in none.
func TestReleaseOfMany(t *testing.T) {
	for _, step := range []int{1, 7, 99} { // each of them goes round all 100
		p := pool.Pool{High: 1000, Free: []int{900, 800, 850}}
		for i := range 100 {
			p.Wait = append(p.Wait, pool.Wait{Txn: uint64(i * step % 100), Pages: []int{700 - 3*i, 400 - i}})
		}
		for oldest := range uint64(102) {
			asChapterReleases(t, p, oldest, true)
		}
		asChapterReleases(t, p, 50, false)
	}
}

func TestWaitingAndListedKnown(t *testing.T) {
	for _, x := range []struct {
		p    pool.Pool
		wait int
		all  []int
	}{
		{pool.Pool{}, 0, nil},
		{pool.Pool{High: 9}, 0, nil},
		{pool.Pool{High: 9, Free: []int{4}}, 0, []int{4}},
		{pool.Pool{High: 9, Free: []int{8, 4, 5}}, 0, []int{4, 5, 8}},
		{pool.Pool{High: 9, Wait: []pool.Wait{{Txn: 1, Pages: []int{7}}}}, 1, []int{7}},
		{pool.Pool{High: 9, Wait: []pool.Wait{{Txn: 1}}}, 0, nil},
		{pool.Pool{High: 9, Free: []int{3, 6}, Wait: []pool.Wait{{Txn: 1, Pages: []int{7, 8}}, {Txn: 5, Pages: []int{2, 4, 5}}}}, 5, []int{2, 3, 4, 5, 6, 7, 8}},
		{pool.Pool{High: 9, Free: []int{6, 3}, Wait: []pool.Wait{{Txn: 5, Pages: []int{8, 7}}, {Txn: 5}, {Txn: 1, Pages: []int{5, 2}}}}, 4, []int{2, 3, 5, 6, 7, 8}},
		{pool.Pool{High: 9, Free: []int{4, 4}, Wait: []pool.Wait{{Txn: 1, Pages: []int{4, 3}}, {Txn: 2, Pages: []int{3, 3}}}}, 4, []int{3, 3, 3, 4, 4, 4}},
		{pool.Pool{High: 2, Free: []int{math.MaxInt, -1}, Wait: []pool.Wait{{Txn: 1, Pages: []int{math.MinInt, 0}}}}, 2, []int{math.MinInt, -1, 0, math.MaxInt}},
	} {
		waiting(t, x.p, x.wait)
		listed(t, x.p, x.all)
	}
}

func TestWaitingAndListedOfEach(t *testing.T) {
	for _, p := range pools() {
		waiting(t, p, plainWaiting(p))
		listed(t, p, plainListed(p))
	}
	listed(t, comb(1000), row(2, 998))
	waiting(t, comb(1000), 998-len(comb(1000).Free))
}

// P13.4

// TestGoodStaysGood takes, gives and releases what may be taken, given and released, of each good pool.
func TestGoodStaysGood(t *testing.T) {
	for _, p := range good() {
		for _, quota := range []int{p.High, p.High + 1, p.High + 30} {
			for many := range min(pool.Room(p, quota), 150) + 1 {
				q, taken, ok := pool.Take(p, quota, many)
				if !ok || !pool.Check(q, quota) || len(taken) != many {
					t.Fatalf("Take(%v, %d, %d) = %v, %v, %v", p, quota, many, q, taken, ok)
				}
				apart(t, p, q, taken, nil)
				if many == 0 {
					continue
				}
				// What was taken is given back, for the last version that waits and for a greater one.
				last := uint64(0)
				if n := len(q.Wait); n > 0 {
					last = q.Wait[n-1].Txn
				}
				for _, txn := range []uint64{last, max(last, last+1)} {
					slices.Reverse(taken)
					back := pool.Give(q, txn, taken)
					if !pool.Check(back, quota) {
						t.Fatalf("Give(%v, %d, %v) = %v", q, txn, taken, back)
					}
					apart(t, q, back, nil, taken)
				}
			}
		}
		for _, oldest := range versions(p) {
			for _, held := range []bool{false, true} {
				q := pool.Release(p, oldest, held)
				if !pool.Check(q, p.High) {
					t.Fatalf("Release(%v, %d, %v) = %v", p, oldest, held, q)
				}
				apart(t, p, q, nil, nil)
			}
		}
	}
}

// apart holds that each page below High is just where it was, or was taken, or given: in one place.
func apart(t *testing.T, ahead, behind pool.Pool, taken, given []int) {
	t.Helper()
	want := slices.Concat(append(listsOf(ahead), given)...)
	for page := ahead.High; page < behind.High; page++ {
		want = append(want, page)
	}
	got := slices.Concat(append(listsOf(behind), taken)...)
	slices.Sort(want)
	slices.Sort(got)
	if !slices.Equal(got, want) {
		t.Fatalf("of %v, with %v given, became %v, with %v taken", ahead, given, behind, taken)
	}
	for i := range want {
		if i > 0 && want[i] == want[i-1] {
			t.Fatalf("page %d is in two places: %v became %v", want[i], ahead, behind)
		}
	}
}

// TestTakenAgain takes all pages, gives them back in parts, and takes them again when they are released, and not ahead of that.
func TestTakenAgain(t *testing.T) {
	const quota = 40
	p, first, ok := pool.Take(pool.Pool{High: 2}, quota, quota-2)
	if !ok || !slices.Equal(first, row(2, quota-2)) {
		t.Fatalf("Take of all = %v, %v", first, ok)
	}
	take(t, p, quota, 1, p, nil, false)
	for i, page := range first {
		p = pool.Give(p, uint64(10+i/3), []int{page})
		take(t, p, quota, 1, p, nil, false)
	}
	again := []int{}
	for txn := uint64(9); txn < 24; txn++ {
		p = pool.Release(p, txn, true)
		if got, want := pool.Room(p, quota), min(3, quota-2-len(again)); txn > 9 && got != want {
			t.Fatalf("Room = %d behind the Release of %d, want %d", got, txn, want)
		}
		var taken []int
		p, taken, ok = pool.Take(p, quota, pool.Room(p, quota))
		if !ok {
			t.Fatal("Take of all of Room: false")
		}
		again = append(again, taken...)
		take(t, p, quota, 1, p, nil, false)
	}
	if !slices.Equal(again, first) || pool.Waiting(p) != 0 {
		t.Fatalf("taken again: %v, %d wait, want %v", again, pool.Waiting(p), first)
	}
	p = pool.Release(pool.Give(p, 30, again), 0, false)
	take(t, p, quota, quota-2, pool.Pool{High: quota}, first, true)
}

// TestNoneIsLost goes on as versions do: each takes pages, gives back some of those that are taken, and may be held. It keeps for each page where it is.
func TestNoneIsLost(t *testing.T) {
	for seed := range uint64(300) {
		roll := dice(seed)
		quota := 4 + roll(60)
		p := pool.Pool{High: 2}
		var mine []int                      // pages that are taken
		waits := map[int]uint64{}           // pages that wait, and the version
		free, used := map[int]struct{}{}, 2 // pages that are free, and how many were ever used
		for txn := uint64(1); txn < 60; txn++ {
			var oldest uint64
			held := roll(4) > 0
			if held {
				oldest = uint64(roll(int(txn)))
			}
			p = pool.Release(p, oldest, held)
			for page, v := range waits {
				if !held || v <= oldest {
					free[page] = struct{}{}
					delete(waits, page)
				}
			}
			var taken []int
			many, ok := roll(pool.Room(p, quota)+2), true
			if p, taken, ok = pool.Take(p, quota, many); ok != (many <= len(free)+quota-used) {
				t.Fatalf("Take of %d of %d free ones and %d unused ones: %v", many, len(free), quota-used, ok)
			}
			for _, page := range taken {
				if _, is := free[page]; is {
					delete(free, page)
				} else if page == used {
					used++
				} else {
					t.Fatalf("page %d was taken, which was neither free nor unused", page)
				}
			}
			mine = append(mine, taken...)
			for range roll(3) {
				var back []int
				for range roll(len(mine) + 1) {
					i := roll(len(mine))
					back, waits[mine[i]] = append(back, mine[i]), txn
					mine = slices.Delete(mine, i, i+1)
				}
				p = pool.Give(p, txn, back)
			}
			if !pool.Check(p, quota) || p.High != used || len(p.Free) != len(free) || pool.Waiting(p) != len(waits) || len(mine)+len(free)+len(waits) != used-2 {
				t.Fatalf("seed %d, version %d: %v, with %d taken, %d free, %d that wait, %d used", seed, txn, p, len(mine), len(free), len(waits), used)
			}
			for _, page := range p.Free {
				if _, is := free[page]; !is {
					t.Fatalf("page %d is free in %v, and shouldn't be", page, p)
				}
			}
			for _, w := range p.Wait {
				for _, page := range w.Pages {
					if v, is := waits[page]; !is || v != w.Txn {
						t.Fatalf("page %d waits for version %d in %v, and shouldn't", page, w.Txn, p)
					}
				}
			}
		}
	}
}

// All promises, by calls in any order.

// TestAnyCalls does long rows of calls, of which any may be with what can't be, beside the same calls on plain lists.
func TestAnyCalls(t *testing.T) {
	for seed := range uint64(200) {
		roll := dice(seed)
		all := pools()
		p := all[roll(len(all))]
		if len(p.Free)+plainWaiting(p) > 100 {
			p = pool.Pool{High: 2}
		}
		for range 150 {
			quota := p.High + roll(12) - 4
			switch roll(5) {
			case 0, 1:
				many := roll(14) - 1
				asChapterTakes(t, p, quota, many)
				p, _, _ = pool.Take(p, quota, many)
			case 2, 3:
				txn := versions(p)[roll(len(versions(p)))]
				var pages []int
				for range roll(6) {
					pages = append(pages, roll(40)-3)
				}
				asChapterGives(t, p, txn, pages)
				p = pool.Give(p, txn, pages)
			case 4:
				oldest, held := versions(p)[roll(len(versions(p)))], roll(3) > 0
				asChapterReleases(t, p, oldest, held)
				p = pool.Release(p, oldest, held)
			}
		}
	}
}

// Rules 3, 4 and 6: nothing that is handed in is changed, and what is returned is in new memory.

// spare is a list in memory of its own, with room behind it that has a page that is no one's.
func spare(l []int) []int {
	out := append(slices.Clone(l), -701, -702, -703)
	return out[:len(l)]
}

// roomy is the same pool in memory of its own, with such room behind each list.
func roomy(p pool.Pool) pool.Pool {
	out := pool.Pool{High: p.High, Free: spare(p.Free)}
	for _, w := range p.Wait {
		out.Wait = append(out.Wait, pool.Wait{Txn: w.Txn, Pages: spare(w.Pages)})
	}
	n := len(out.Wait)
	out.Wait = append(out.Wait, pool.Wait{Txn: 704, Pages: []int{705}}, pool.Wait{Txn: 706, Pages: []int{707}})[:n]
	return out
}

// whole is a list with all that its memory has room for.
func whole[T any](l []T) []T { return l[:cap(l)] }

// memory is what stands in lists, and in the elements of pools, with the room behind them.
func memory(lists [][]int, waits [][]pool.Wait) ([][]int, [][]pool.Wait) {
	var numbers [][]int
	for _, l := range lists {
		numbers = append(numbers, slices.Clone(whole(l)))
	}
	var elements [][]pool.Wait
	for _, l := range waits {
		elements = append(elements, slices.Clone(whole(l)))
	}
	return numbers, elements
}

// sameWaits tells whether elements have the same versions, and their pages stand in the same place and are as many.
func sameWaits(a, b []pool.Wait) bool {
	return slices.EqualFunc(a, b, func(v, w pool.Wait) bool {
		return v.Txn == w.Txn && len(v.Pages) == len(w.Pages) && (len(v.Pages) == 0 || &v.Pages[0] == &w.Pages[0])
	})
}

// calls is what can be done with a pool and pages, with its name: each tells the pools and the lists that it returns.
func calls(p pool.Pool, pages []int) iter.Seq2[string, func() (pool.Pool, []int)] {
	last := uint64(5)
	if n := len(p.Wait); n > 0 {
		last = p.Wait[n-1].Txn
	}
	return func(yield func(string, func() (pool.Pool, []int)) bool) {
		for _, many := range []int{-1, 0, 1, len(p.Free), len(p.Free) + 1, len(p.Free) + 2, len(p.Free) + 9} {
			if !yield("Take", func() (pool.Pool, []int) { q, l, _ := pool.Take(p, p.High+3, many); return q, l }) {
				return
			}
		}
		for _, txn := range []uint64{last, last + 1, 0} {
			for _, l := range [][]int{pages, pages[:0], p.Free} {
				if !yield("Give", func() (pool.Pool, []int) { return pool.Give(p, txn, l), nil }) {
					return
				}
			}
		}
		for _, oldest := range versions(p) {
			for _, held := range []bool{false, true} {
				if !yield("Release", func() (pool.Pool, []int) { return pool.Release(p, oldest, held), nil }) {
					return
				}
			}
		}
		yield("Listed", func() (pool.Pool, []int) { return pool.Pool{}, pool.Listed(p) })
	}
}

// TestNothingIsShared overwrites each list that a call was handed or has returned, with the room behind it: no other one may change.
func TestNothingIsShared(t *testing.T) {
	for _, of := range pools() {
		if len(of.Free)+plainWaiting(of) > 100 {
			continue
		}
		p, pages := roomy(of), spare([]int{9, 4, 6})
		for name, call := range calls(p, pages) {
			lists, waits := append(listsOf(p), pages), [][]pool.Wait{p.Wait}
			numbers, elements := memory(lists, waits)
			q, l := call()
			second, more := call()
			for i := range lists {
				if !slices.Equal(whole(lists[i]), numbers[i]) {
					t.Fatalf("%s changed what it was handed, list %d: %v, was %v", name, i, whole(lists[i]), numbers[i])
				}
			}
			if !sameWaits(whole(p.Wait), elements[0]) {
				t.Fatalf("%s changed the elements of %v", name, of)
			}
			lists = append(append(append(append(lists, listsOf(q)...), l), listsOf(second)...), more)
			waits = append(waits, q.Wait, second.Wait)
			numbers, elements = memory(lists, waits)
			for i := range lists {
				for k := range whole(lists[i]) {
					whole(lists[i])[k] = -9000 - i
				}
				for k := range lists {
					if k != i && !slices.Equal(whole(lists[k]), numbers[k]) {
						t.Fatalf("%s of %v: list %d became %v when list %d was changed, was %v", name, of, k, whole(lists[k]), i, numbers[k])
					}
				}
				copy(whole(lists[i]), numbers[i])
			}
			for i := range waits {
				for k := range whole(waits[i]) {
					whole(waits[i])[k] = pool.Wait{Txn: 8000 + uint64(i)}
				}
				for k := range waits {
					if k != i && !sameWaits(whole(waits[k]), elements[k]) {
						t.Fatalf("%s of %v: elements %d became %v when elements %d were changed", name, of, k, whole(waits[k]), i)
					}
				}
				copy(whole(waits[i]), elements[i])
			}
			if !alike(q, second) || !slices.Equal(l, more) {
				t.Fatalf("%s of %v = %v, %v, and once more %v, %v", name, of, q, l, second, more)
			}
		}
		if !alike(p, of) {
			t.Fatalf("%v became %v", of, p)
		}
	}
}

// TestResultsStay goes on with each pool that was returned ahead, and holds that all of them are what they were.
func TestResultsStay(t *testing.T) {
	for seed := range uint64(40) {
		roll := dice(seed)
		told := []pool.Pool{{High: 2}}
		were := []pool.Pool{{High: 2}}
		var lists, listsWere [][]int
		for txn := range uint64(200) {
			p := told[max(0, len(told)-1-roll(4))]
			switch roll(3) {
			case 0:
				q, taken, _ := pool.Take(p, 200, roll(8))
				p = q
				lists, listsWere = append(lists, taken), append(listsWere, slices.Clone(taken))
			case 1:
				var pages []int
				if len(lists) > 0 {
					pages = lists[roll(len(lists))]
				}
				p = pool.Give(p, txn/4, pages)
			case 2:
				p = pool.Release(p, txn/4-min(txn/4, uint64(roll(6))), roll(8) > 0)
			}
			l := pool.Listed(p)
			lists, listsWere = append(lists, l), append(listsWere, slices.Clone(l))
			told, were = append(told, p), append(were, twin(p))
		}
		for i := range told {
			if !alike(told[i], were[i]) {
				t.Fatalf("seed %d: pool %d became %v, was %v", seed, i, told[i], were[i])
			}
		}
		for i := range lists {
			if !slices.Equal(lists[i], listsWere[i]) {
				t.Fatalf("seed %d: list %d became %v, was %v", seed, i, lists[i], listsWere[i])
			}
		}
	}
}

// TestNilAndEmptyAreAlike has lists without elements that are there, and that have room behind them.
func TestNilAndEmptyAreAlike(t *testing.T) {
	for _, p := range pools() {
		q := roomy(p)
		for i := range q.Wait {
			if len(q.Wait[i].Pages) == 0 {
				q.Wait[i].Pages = nil
			}
		}
		for _, quota := range quotas(p) {
			if pool.Check(p, quota) != pool.Check(q, quota) || pool.Room(p, quota) != pool.Room(q, quota) {
				t.Fatalf("Check or Room of %v and quota %d hangs on memory", p, quota)
			}
		}
		a, taken, ok := pool.Take(p, p.High, 1)
		b, again, did := pool.Take(q, p.High, 1)
		if !alike(a, b) || !slices.Equal(taken, again) || ok != did {
			t.Fatalf("Take of %v hangs on memory", p)
		}
		if !alike(pool.Give(p, 3, nil), pool.Give(q, 3, []int{})) || !alike(pool.Give(p, 3, []int{5}), pool.Give(q, 3, spare([]int{5}))) {
			t.Fatalf("Give of %v hangs on memory", p)
		}
		if !alike(pool.Release(p, 3, true), pool.Release(q, 3, true)) || pool.Waiting(p) != pool.Waiting(q) || !slices.Equal(pool.Listed(p), pool.Listed(q)) {
			t.Fatalf("Release, Waiting or Listed of %v hangs on memory", p)
		}
	}
}
