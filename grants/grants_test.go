package grants_test

import (
	"bytes"
	"math"
	"slices"
	"testing"

	"jalousie/api"
	"jalousie/grants"
	"jalousie/lattice"
)

// The signatures that the chapter lists: another one doesn't compile.
var (
	_ func(api.Grant, api.Grant) bool            = grants.Less
	_ func([]uint64, api.Grant) bool             = grants.Fits
	_ func([]uint64, []api.Grant) bool           = grants.Check
	_ func([]api.Grant, api.Grant) bool          = grants.May
	_ func([]uint64, []api.Grant, uint64) uint64 = grants.Sources
	_ func([]api.Grant) []byte                   = grants.Put
	_ func([]byte) ([]api.Grant, api.Errno)      = grants.Get
)

const all = math.MaxUint64

// Lattices.

// pair is the chapter's: 0 below 1.
func pair() []uint64 { return []uint64{3, 2} }

// diamond is 0 below 1 and 2, and 3 above both.
func diamond() []uint64 { return []uint64{15, 10, 12, 8} }

// ladder is so many labels, each of which flows to those behind it.
func ladder(n int) []uint64 {
	up := make([]uint64, n)
	for c := range n - 1 {
		up[c] = 1 << (c + 1)
	}
	return lattice.Close(up)
}

// fan is so many labels: the first flows to all others, and all others to the last.
func fan(n int) []uint64 {
	up := make([]uint64, n)
	for c := range up {
		up[0] |= 1 << c
		up[c] |= 1 << (n - 1)
	}
	return lattice.Close(up)
}

// few are lattices of up to five labels, in many orders.
func few() [][]uint64 {
	return [][]uint64{{1}, pair(), {1, 3}, ladder(3), {1, 3, 7}, {5, 7, 4}, diamond(), {1, 3, 5, 15}, {5, 15, 4, 12}, ladder(4), fan(5), {31, 22, 20, 24, 16}}
}

// lattices are those, and lattices of up to 64 labels.
func lattices(t *testing.T) [][]uint64 {
	t.Helper()
	out := append(few(), ladder(8), fan(9), ladder(63), fan(63), ladder(64), fan(64))
	for _, up := range out {
		if !lattice.Check(up) {
			t.Fatalf("%b is no lattice", up)
		}
	}
	return out
}

// Grants.

// dice produces numbers below one, which look like chance and are the same for one seed.
func dice(seed uint64) func(below int) int {
	return func(below int) int {
		seed = seed*6364136223846793005 + 1442695040888963407
		return int(seed >> 33 % uint64(below))
	}
}

// rolled is so many grants, of labels from -1 to n.
func rolled(roll func(int) int, n, size int) []api.Grant {
	l := make([]api.Grant, size)
	for i := range l {
		l[i] = api.Grant{Actor: roll(n+2) - 1, From: roll(n+2) - 1, To: roll(n+2) - 1}
	}
	return l
}

// each is all grants of some labels, rising if the labels do.
func each(of []int) []api.Grant {
	var l []api.Grant
	for _, a := range of {
		for _, f := range of {
			for _, t := range of {
				l = append(l, api.Grant{Actor: a, From: f, To: t})
			}
		}
	}
	return l
}

// fitting is all grants that fit, rising.
func fitting(up []uint64) []api.Grant {
	of := make([]int, len(up))
	for c := range of {
		of[c] = c
	}
	return slices.DeleteFunc(each(of), func(g api.Grant) bool { return !plainFits(up, g) })
}

// numbered is so many grants, each of its own.
func numbered(size int) []api.Grant {
	l := make([]api.Grant, size)
	for i := range l {
		l[i] = api.Grant{Actor: i % 251, From: i % 7, To: 255 - i%256}
	}
	return l
}

// The promises, done as the chapter says them.

func plainLess(a, b api.Grant) bool {
	if a.Actor != b.Actor {
		return a.Actor < b.Actor
	}
	if a.From != b.From {
		return a.From < b.From
	}
	return a.To < b.To
}

// plainLeq tells whether both are labels, and the bit is 1.
func plainLeq(up []uint64, a, b int) bool {
	n := len(up)
	return a >= 0 && a < n && b >= 0 && b < n && up[a]/(1<<b)%2 == 1
}

func plainFits(up []uint64, g api.Grant) bool {
	return plainLeq(up, g.From, g.Actor) && plainLeq(up, g.To, g.Actor) && !plainLeq(up, g.From, g.To)
}

// plainSources adds what is missing, label by label, till nothing is.
func plainSources(up []uint64, l []api.Grant, some uint64) uint64 {
	in := make([]bool, len(up))
	for c := range in {
		in[c] = some/(1<<c)%2 == 1
	}
	for changed := true; changed; {
		changed = false
		add := func(c int) {
			changed = changed || !in[c]
			in[c] = true
		}
		for a := range in {
			for b := range in {
				if in[b] && plainLeq(up, a, b) {
					add(a)
				}
			}
		}
		for _, g := range l {
			if plainFits(up, g) && in[g.To] {
				add(g.Actor)
				add(g.From)
			}
		}
	}
	var set uint64
	for c := range in {
		if in[c] {
			set += 1 << c
		}
	}
	return set
}

// plainPut is the bytes of at most 255 grants.
func plainPut(l []api.Grant) []byte {
	b := []byte{byte(len(l))}
	for _, g := range l {
		b = append(b, plainByte(g.Actor), plainByte(g.From), plainByte(g.To))
	}
	return b
}

// plainByte is a number modulo 256, from 0 on.
func plainByte(x int) byte { return byte((x%256 + 256) % 256) }

// P4.1

func TestLess(t *testing.T) {
	l := each([]int{math.MinInt, -300, -1, 0, 1, 2, 63, 64, 256, math.MaxInt})
	for i, a := range l {
		for j, b := range l {
			if got := grants.Less(a, b); got != (i < j) || got != plainLess(a, b) {
				t.Fatalf("Less(%v, %v) = %v", a, b, got)
			}
		}
	}
}

func TestLessKnown(t *testing.T) {
	for _, x := range []struct {
		a, b api.Grant
		want bool
	}{
		{api.Grant{}, api.Grant{}, false},
		{api.Grant{Actor: 1, From: 2, To: 3}, api.Grant{Actor: 1, From: 2, To: 3}, false},
		{api.Grant{Actor: 1, From: 9, To: 9}, api.Grant{Actor: 2, From: 0, To: 0}, true}, // the actor counts first
		{api.Grant{Actor: 2, From: 0, To: 0}, api.Grant{Actor: 1, From: 9, To: 9}, false},
		{api.Grant{Actor: 1, From: 2, To: 9}, api.Grant{Actor: 1, From: 3, To: 0}, true}, // then the source
		{api.Grant{Actor: 1, From: 3, To: 0}, api.Grant{Actor: 1, From: 2, To: 9}, false},
		{api.Grant{Actor: 1, From: 2, To: 3}, api.Grant{Actor: 1, From: 2, To: 4}, true}, // then the target
		{api.Grant{Actor: 1, From: 2, To: 4}, api.Grant{Actor: 1, From: 2, To: 3}, false},
		{api.Grant{Actor: -1}, api.Grant{Actor: 0}, true},
		{api.Grant{Actor: 2}, api.Grant{Actor: 10}, true}, // as numbers
		{api.Grant{Actor: math.MinInt}, api.Grant{Actor: math.MaxInt}, true},
		{api.Grant{To: math.MaxInt}, api.Grant{To: math.MinInt}, false},
	} {
		if got := grants.Less(x.a, x.b); got != x.want {
			t.Errorf("Less(%v, %v) = %v", x.a, x.b, got)
		}
	}
}

// places are numbers around so many labels, and far off.
func places(n int) []int {
	out := []int{math.MinInt, -256, -64, -2, -1, n, n + 1, 62, 63, 64, 65, 128, 255, 256, 257, 1 << 32, math.MaxInt}
	for c := range min(n, 9) {
		out = append(out, c, n-1-c)
	}
	slices.Sort(out)
	return slices.Compact(out)
}

func TestFits(t *testing.T) {
	for _, up := range lattices(t) {
		fit := 0
		for _, g := range each(places(len(up))) {
			got := grants.Fits(up, g)
			if got != plainFits(up, g) {
				t.Fatalf("Fits(%b, %v) = %v", up, g, got)
			}
			if got {
				fit++
			}
		}
		if fit == 0 && len(up) > 1 {
			t.Errorf("in %b no grant fits", up)
		}
	}
}

func TestFitsKnown(t *testing.T) {
	for _, x := range []struct {
		up   []uint64
		g    api.Grant
		want bool
	}{
		{pair(), api.Grant{Actor: 1, From: 1, To: 0}, true},  // the chapter's example
		{pair(), api.Grant{Actor: 0, From: 1, To: 0}, false}, // the actor doesn't see the source
		{pair(), api.Grant{Actor: 1, From: 0, To: 1}, false}, // it flows there as it is
		{pair(), api.Grant{Actor: 1, From: 1, To: 1}, false},
		{pair(), api.Grant{Actor: 1, From: 0, To: 0}, false},
		{pair(), api.Grant{Actor: 2, From: 1, To: 0}, false}, // no labels
		{pair(), api.Grant{Actor: 1, From: 2, To: 0}, false},
		{pair(), api.Grant{Actor: 1, From: 1, To: 2}, false},
		{pair(), api.Grant{Actor: -1, From: 1, To: 0}, false},
		{pair(), api.Grant{Actor: 1, From: -1, To: 0}, false},
		{pair(), api.Grant{Actor: 1, From: 1, To: -1}, false},
		{pair(), api.Grant{Actor: 257, From: 257, To: 256}, false},
		{[]uint64{1}, api.Grant{}, false},
		{diamond(), api.Grant{Actor: 3, From: 1, To: 2}, true}, // aside
		{diamond(), api.Grant{Actor: 3, From: 2, To: 1}, true},
		{diamond(), api.Grant{Actor: 3, From: 3, To: 0}, true},
		{diamond(), api.Grant{Actor: 3, From: 1, To: 0}, true}, // by one above the source
		{diamond(), api.Grant{Actor: 1, From: 1, To: 0}, true},
		{diamond(), api.Grant{Actor: 2, From: 1, To: 0}, false}, // by one beside it
		{diamond(), api.Grant{Actor: 1, From: 1, To: 2}, false}, // to one that the actor doesn't see
		{diamond(), api.Grant{Actor: 1, From: 3, To: 0}, false},
		{diamond(), api.Grant{Actor: 3, From: 0, To: 1}, false},
		{ladder(64), api.Grant{Actor: 63, From: 63, To: 62}, true},
		{ladder(64), api.Grant{Actor: 63, From: 62, To: 63}, false},
		{ladder(64), api.Grant{Actor: 62, From: 63, To: 0}, false},
		{ladder(64), api.Grant{Actor: 64, From: 63, To: 0}, false},
		{fan(64), api.Grant{Actor: 63, From: 62, To: 61}, true},
	} {
		if got := grants.Fits(x.up, x.g); got != x.want {
			t.Errorf("Fits(%b, %v) = %v", x.up, x.g, got)
		}
	}
}

func TestMay(t *testing.T) {
	some := []api.Grant{{Actor: 3, From: 2, To: 1}, {Actor: 1, From: 2, To: 3}, {Actor: 3, From: 2, To: 1}, {Actor: 2, From: 0, To: 0}, {Actor: -1, From: 300, To: math.MinInt}}
	sorted := fitting(diamond())
	for _, l := range [][]api.Grant{nil, {}, some, sorted, numbered(64), numbered(65), numbered(300), {{}}, {{Actor: 1}}} {
		backwards := slices.Clone(l)
		slices.Reverse(backwards)
		for _, g := range l {
			if !grants.May(l, g) || !grants.May(backwards, g) {
				t.Errorf("May(%v, %v) = false, or backwards", l, g)
			}
		}
		for _, g := range each([]int{math.MinInt, -1, 0, 1, 2, 3, 4, 300}) {
			want := false
			for _, x := range l {
				want = want || x.Actor == g.Actor && x.From == g.From && x.To == g.To
			}
			if got, back := grants.May(l, g), grants.May(backwards, g); got != want || back != want {
				t.Errorf("May(%v, %v) = %v, and backwards %v", l, g, got, back)
			}
		}
	}
}

func TestMayOfOneThatIsTakenOut(t *testing.T) {
	l := fitting(ladder(8))
	for i, g := range l {
		if !grants.May(l, g) {
			t.Errorf("May of element %d = false", i)
		}
		if grants.May(slices.Delete(slices.Clone(l), i, i+1), g) {
			t.Errorf("May of element %d = true without it", i)
		}
	}
}

// P4.2

// checked holds what Check tells of a row.
func checked(t *testing.T, up []uint64, l []api.Grant, want bool) {
	t.Helper()
	if got := grants.Check(up, l); got != want {
		t.Errorf("Check(%b, %v) = %v", up, l, got)
	}
}

func TestCheckOfNone(t *testing.T) {
	for _, up := range lattices(t) {
		checked(t, up, nil, true)
		checked(t, up, []api.Grant{}, true)
	}
}

func TestCheckOfOne(t *testing.T) {
	for _, up := range few() {
		for _, g := range each(places(len(up))) {
			checked(t, up, []api.Grant{g}, plainFits(up, g))
		}
	}
}

func TestCheckOfTwo(t *testing.T) {
	for _, up := range few() {
		l := each([]int{-1, 0, 1, 2, 3})
		for _, a := range l {
			for _, b := range l {
				checked(t, up, []api.Grant{a, b}, plainFits(up, a) && plainFits(up, b) && plainLess(a, b))
			}
		}
	}
}

func TestCheckOfThree(t *testing.T) {
	up := diamond()
	l := fitting(up)
	for _, a := range l {
		for _, b := range l {
			for _, c := range l {
				checked(t, up, []api.Grant{a, b, c}, plainLess(a, b) && plainLess(b, c))
			}
		}
	}
}

func TestCheckOfMany(t *testing.T) {
	up := ladder(64)
	l := fitting(up)
	if len(l) < 1000 {
		t.Fatalf("%d grants fit", len(l))
	}
	for _, size := range []int{1, 2, 63, 64, 65, 66, 128, 255, 256, 257, 320, 1000, len(l)} {
		checked(t, up, l[:size], size <= 64)
		checked(t, up, l[len(l)-size:], size <= 64)
	}
}

func TestCheckOfAChangedRow(t *testing.T) {
	up := ladder(64)
	l := fitting(up)[:64]
	for i, g := range l {
		row := slices.Clone(l)
		row[i].To = row[i].From // rising as before, or not: one that doesn't fit
		checked(t, up, row, false)
		row[i] = api.Grant{Actor: g.Actor, From: g.From, To: -1}
		checked(t, up, row, false)
		row[i] = api.Grant{Actor: g.Actor + 64, From: g.From, To: g.To}
		checked(t, up, row, false)
		checked(t, up, slices.Delete(slices.Clone(l), i, i+1), true)
		if i == 0 {
			continue
		}
		row[i] = l[i-1] // one twice
		checked(t, up, row, false)
		copy(row, l)
		row[i-1], row[i] = row[i], row[i-1]
		checked(t, up, row, false)
	}
	back := slices.Clone(l)
	slices.Reverse(back)
	checked(t, up, back, false)
	checked(t, up, append(slices.Clone(l[:32]), l[:32]...), false)
}

// sourced holds that the sources are the chapter's.
func sourced(t *testing.T, up []uint64, l []api.Grant, some uint64) {
	t.Helper()
	if got, want := grants.Sources(up, l, some), plainSources(up, l, some); got != want {
		t.Errorf("Sources(%b, %v, %b) = %b, want %b", up, l, some, got, want)
	}
}

func TestSourcesKnown(t *testing.T) {
	down := []api.Grant{{Actor: 1, From: 1, To: 0}}
	for _, x := range []struct {
		up   []uint64
		l    []api.Grant
		some uint64
		want uint64
	}{
		{pair(), down, 1, 3}, // the chapter's example
		{pair(), nil, 1, 1},
		{pair(), nil, 2, 3},
		{pair(), nil, 0, 0},
		{pair(), down, 0, 0},
		{pair(), down, 2, 3},
		{pair(), down, 4, 0}, // bits that are no label
		{pair(), down, 1 << 63, 0},
		{pair(), down, all, 3},
		{pair(), down, all &^ 3, 0},
		{pair(), []api.Grant{{Actor: 0, From: 1, To: 0}}, 1, 1}, // one that doesn't fit
		{pair(), []api.Grant{{Actor: 1, From: 1, To: 2}}, 5, 1},
		{pair(), []api.Grant{{Actor: 2, From: 1, To: 0}}, 1, 1},
		{[]uint64{1}, []api.Grant{{}}, 1, 1},
		{diamond(), nil, 2, 3},
		{diamond(), nil, 6, 7},
		{diamond(), nil, 8, 15},
		{diamond(), []api.Grant{{Actor: 1, From: 1, To: 0}}, 1, 3},
		{diamond(), []api.Grant{{Actor: 1, From: 1, To: 0}}, 4, 7},                             // by way of 0, which flows to 2
		{diamond(), []api.Grant{{Actor: 3, From: 1, To: 0}}, 1, 15},                            // the actor, and all that it sees
		{diamond(), []api.Grant{{Actor: 3, From: 1, To: 2}}, 2, 3},                             // to another one
		{diamond(), []api.Grant{{Actor: 3, From: 1, To: 2}}, 1, 1},                             // to one above
		{ladder(3), []api.Grant{{Actor: 1, From: 1, To: 0}, {Actor: 2, From: 2, To: 1}}, 1, 7}, // two steps
		{ladder(3), []api.Grant{{Actor: 2, From: 2, To: 1}, {Actor: 1, From: 1, To: 0}}, 1, 7}, // in any order
		{ladder(3), []api.Grant{{Actor: 2, From: 2, To: 1}}, 1, 1},
		{ladder(3), []api.Grant{{Actor: 2, From: 1, To: 0}}, 1, 7}, // 2 by its deed alone
		{ladder(64), nil, 1 << 63, all},
		{ladder(64), nil, 1 << 62, all >> 1},
		{ladder(64), []api.Grant{{Actor: 63, From: 63, To: 0}}, 1, all},
		{fan(64), []api.Grant{{Actor: 62, From: 62, To: 0}}, 2, 3 | 1<<62},
	} {
		if got := grants.Sources(x.up, x.l, x.some); got != x.want {
			t.Errorf("Sources(%b, %v, %b) = %b, want %b", x.up, x.l, x.some, got, x.want)
		}
	}
}

// TestSourcesAreTheLeastSet goes through all sets that hold what the chapter asks: the sources are what is in all of them.
func TestSourcesAreTheLeastSet(t *testing.T) {
	roll := dice(1)
	for _, up := range few() {
		for range 60 {
			l := rolled(roll, len(up), roll(5))
			for some := range uint64(1) << len(up) {
				least := uint64(1)<<len(up) - 1
				for set := range uint64(1) << len(up) {
					if set&some == some && isClosed(up, l, set) {
						least &= set
					}
				}
				if got := grants.Sources(up, l, some); got != least {
					t.Fatalf("Sources(%b, %v, %b) = %b, want %b", up, l, some, got, least)
				}
			}
		}
	}
}

// isClosed tells whether a set has each label that may flow to one of it, and the actor and the source of each fitting grant to one.
func isClosed(up []uint64, l []api.Grant, set uint64) bool {
	in := func(c int) bool { return set/(1<<c)%2 == 1 }
	for a := range up {
		for b := range up {
			if in(b) && plainLeq(up, a, b) && !in(a) {
				return false
			}
		}
	}
	for _, g := range l {
		if plainFits(up, g) && in(g.To) && !(in(g.Actor) && in(g.From)) {
			return false
		}
	}
	return true
}

func TestSourcesOfEachGrant(t *testing.T) {
	for _, up := range few() {
		of := []int{math.MinInt, -64, -1, 0, 1, 2, 3, 4, 5, 63, 64, 65, 256, math.MaxInt}
		for _, g := range each(of) {
			for some := range uint64(1) << len(up) {
				sourced(t, up, []api.Grant{g}, some)
			}
		}
	}
}

func TestSourcesOfMany(t *testing.T) {
	roll := dice(2)
	for _, up := range lattices(t) {
		fit := fitting(up)
		for range 20 {
			l := rolled(roll, len(up), roll(20))
			for range min(len(fit), roll(4)) {
				l = append(l, fit[roll(len(fit))])
			}
			sourced(t, up, l, 1<<roll(64))
			sourced(t, up, l, 1<<roll(len(up)))
			sourced(t, up, l, 1<<roll(len(up))|1<<roll(len(up))|1<<roll(64))
			sourced(t, up, l, 0)
			sourced(t, up, l, all)
		}
	}
}

// TestSourcesOfALongWay has a step from each label to the one below it, told in the order that asks for most rounds, and the other way round.
func TestSourcesOfALongWay(t *testing.T) {
	up := ladder(64)
	var l []api.Grant
	for c := 63; c > 0; c-- {
		l = append(l, api.Grant{Actor: c, From: c, To: c - 1})
	}
	for range 2 {
		for c := range 64 {
			if got := grants.Sources(up, l, 1<<c); got != all {
				t.Errorf("Sources of label %d = %b", c, got)
			}
		}
		for gap := range l {
			rest := slices.Delete(slices.Clone(l), gap, gap+1)
			if got, want := grants.Sources(up, rest, 1), uint64(1)<<l[gap].From-1; got != want {
				t.Errorf("Sources of 0 without %v = %b, want %b", l[gap], got, want)
			}
		}
		slices.Reverse(l)
	}
}

// TestSourcesOfAnyRow has rows that Check doesn't accept: of each of their grants it counts alone whether it fits.
func TestSourcesOfAnyRow(t *testing.T) {
	up := ladder(64)
	l := fitting(up)
	last := []api.Grant{{Actor: 1, From: 1, To: 0}}
	others := slices.DeleteFunc(slices.Clone(l), func(g api.Grant) bool { return g.To == 0 })
	for _, size := range []int{0, 1, 63, 64, 65, 254, 255, 256, 257, 5000} {
		row := append(slices.Clone(others[:size]), last...)
		sourced(t, up, row, 1)
		if got := grants.Sources(up, row, 1); got&3 != 3 {
			t.Errorf("Sources of a row of %d = %b: not by its last grant", len(row), got)
		}
		if got := grants.Sources(up, others[:size], 1); got != 1 {
			t.Errorf("Sources of %d grants to others = %b", size, got)
		}
	}
	sourced(t, up, append(last, last...), 1)
	sourced(t, up, append(numbered(300), last...), 1)
}

// P4.3

func TestPutKnown(t *testing.T) {
	for _, x := range []struct {
		l    []api.Grant
		want string
	}{
		{nil, "\x00"},
		{[]api.Grant{}, "\x00"},
		{[]api.Grant{{Actor: 1, From: 1, To: 0}}, "\x01\x01\x01\x00"},
		{[]api.Grant{{Actor: 3, From: 2, To: 1}}, "\x01\x03\x02\x01"},
		{[]api.Grant{{Actor: 3, From: 2, To: 1}, {Actor: 63, From: 5, To: 7}}, "\x02\x03\x02\x01\x3f\x05\x07"},
		{[]api.Grant{{Actor: 9, From: 9, To: 9}, {}, {Actor: 9, From: 9, To: 9}}, "\x03\x09\x09\x09\x00\x00\x00\x09\x09\x09"}, // any row
		{[]api.Grant{{Actor: 255, From: 128, To: 127}}, "\x01\xff\x80\x7f"},
		{[]api.Grant{{Actor: 256, From: 257, To: 511}}, "\x01\x00\x01\xff"},
		{[]api.Grant{{Actor: -1, From: -256, To: -257}}, "\x01\xff\x00\xff"},
		{[]api.Grant{{Actor: -128, From: 1 << 32, To: 1000}}, "\x01\x80\x00\xe8"},
		{[]api.Grant{{Actor: math.MinInt, From: math.MaxInt, To: math.MinInt + 5}}, "\x01\x00\xff\x05"},
	} {
		if got := grants.Put(x.l); string(got) != x.want {
			t.Errorf("Put(%v) = %x, want %x", x.l, got, x.want)
		}
	}
}

func TestPut(t *testing.T) {
	roll := dice(3)
	for _, size := range []int{0, 1, 2, 63, 64, 65, 128, 253, 254, 255} {
		for _, l := range [][]api.Grant{numbered(size), rolled(roll, 1000, size), rolled(roll, 10, size)} {
			if got, want := grants.Put(l), plainPut(l); !bytes.Equal(got, want) {
				t.Errorf("Put of %d grants = %x, want %x", size, got, want)
			}
		}
	}
	for _, size := range []int{256, 257, 300, 510, 511, 512, 1000} {
		l := numbered(size)
		got := grants.Put(l)
		if len(got) != 1+3*255 || got[0] != 255 || !bytes.Equal(got, plainPut(l[:255])) {
			t.Errorf("Put of %d grants = %x", size, got)
		}
	}
}

// got holds what Get comes to, and that there is nothing beside an error.
func got(t *testing.T, b []byte, want []api.Grant, err api.Errno) {
	t.Helper()
	l, e := grants.Get(b)
	if e != err || !slices.Equal(l, want) || e != api.OK && l != nil {
		t.Errorf("Get(%x) = %v, %v, want %v, %v", b, l, e, want, err)
	}
}

func TestGetKnown(t *testing.T) {
	got(t, nil, nil, api.ErrShort)
	got(t, []byte{}, nil, api.ErrShort)
	got(t, []byte{0}, nil, api.OK)
	got(t, []byte{0, 0}, nil, api.ErrForm)
	got(t, []byte{1}, nil, api.ErrShort)
	got(t, []byte{1, 1}, nil, api.ErrShort)
	got(t, []byte{1, 1, 1}, nil, api.ErrShort)
	got(t, []byte{1, 3, 2, 1}, []api.Grant{{Actor: 3, From: 2, To: 1}}, api.OK)
	got(t, []byte{1, 3, 2, 1, 0}, nil, api.ErrForm)
	got(t, []byte{2, 3, 2, 1}, nil, api.ErrShort)
	got(t, []byte{255}, nil, api.ErrShort)
	// Whether a lattice may have the row is not asked.
	got(t, []byte{2, 255, 0, 64, 255, 0, 64}, []api.Grant{{Actor: 255, From: 0, To: 64}, {Actor: 255, From: 0, To: 64}}, api.OK)
	got(t, []byte{2, 9, 8, 7, 1, 2, 3}, []api.Grant{{Actor: 9, From: 8, To: 7}, {Actor: 1, From: 2, To: 3}}, api.OK)
}

func TestGetOfEachLength(t *testing.T) {
	for size := range 256 {
		l := numbered(size)
		b := plainPut(l)
		if size <= 64 {
			got(t, b, l, api.OK)
		} else {
			got(t, b, nil, api.ErrForm)
		}
		got(t, append(bytes.Clone(b), 0), nil, api.ErrForm)
		got(t, append(bytes.Clone(b), b...), nil, api.ErrForm)
		for end := range b {
			got(t, b[:end], nil, api.ErrShort) // ahead of there being too many
		}
	}
}

func TestGetOfPut(t *testing.T) {
	roll := dice(4)
	fit := fitting(ladder(64))
	for size := range 65 {
		for _, l := range [][]api.Grant{numbered(size), fit[:size]} {
			got(t, grants.Put(l), l, api.OK)
		}
		l := rolled(roll, 500, size)
		bytewise := slices.Clone(l)
		for i, g := range l {
			bytewise[i] = api.Grant{Actor: int(plainByte(g.Actor)), From: int(plainByte(g.From)), To: int(plainByte(g.To))}
		}
		got(t, grants.Put(l), bytewise, api.OK)
	}
	for _, size := range []int{65, 66, 128, 255, 256, 257, 320, 1000} {
		got(t, grants.Put(numbered(size)), nil, api.ErrForm)
	}
}

// P4.4

func TestMoreGrantsHaveNoFewerSources(t *testing.T) {
	roll := dice(5)
	for _, up := range lattices(t) {
		fit := fitting(up)
		for range 20 {
			l := rolled(roll, len(up), 10)
			for range min(len(fit), 5) {
				l = slices.Insert(l, roll(len(l)+1), fit[roll(len(fit))])
			}
			some := uint64(1)<<roll(len(up)) | 1<<roll(64)
			before := grants.Sources(up, nil, some)
			for size := range l {
				after := grants.Sources(up, l[:size+1], some)
				if before&^after != 0 {
					t.Fatalf("Sources(%b, %v, %b) = %b, but without its last grant %b", up, l[:size+1], some, after, before)
				}
				before = after
			}
		}
	}
}

func TestSourcesWithoutGrants(t *testing.T) {
	roll := dice(6)
	for _, up := range lattices(t) {
		var others []api.Grant // none of which fits
		for _, g := range rolled(roll, len(up), 50) {
			if !plainFits(up, g) {
				others = append(others, g)
			}
		}
		for c := range up {
			some := uint64(1)<<c | 1<<roll(len(up))
			var want uint64
			for _, d := range lattice.List(some) {
				want |= lattice.Down(up, d)
			}
			if none, other := grants.Sources(up, nil, some), grants.Sources(up, others, some); none != want || other != want {
				t.Errorf("Sources(%b, no grants, %b) = %b, and with grants that don't fit %b, want %b", up, some, none, other, want)
			}
		}
	}
}

// Rows that are no lattice: nothing is promised of them but that the call returns.

func TestRowsThatAreNoLattice(t *testing.T) {
	l := append(each([]int{-1, 0, 1, 2, 63, 64, 65, math.MaxInt}), numbered(10)...)
	for _, up := range [][]uint64{nil, {}, {0}, {all}, {3, 3}, {0, all, 1 << 63}, make([]uint64, 64), slices.Repeat([]uint64{all}, 64), make([]uint64, 65), slices.Repeat([]uint64{all}, 65), slices.Repeat([]uint64{all}, 300)} {
		for _, g := range l {
			grants.Fits(up, g)
			grants.Check(up, []api.Grant{g})
		}
		grants.Check(up, l)
		for _, some := range []uint64{0, 1, 1 << 63, all} {
			grants.Sources(up, l, some)
		}
	}
}

// Rule 3: arguments are neither modified nor retained, and results are in new memory.

func TestArgumentsAreLeft(t *testing.T) {
	rows := append(diamond(), 77, 78)
	row := append([]api.Grant{{Actor: 3, From: 3, To: 0}, {Actor: 1, From: 1, To: 0}, {Actor: -1, From: 300, To: 0}}, numbered(300)...)
	wantRows, wantRow := slices.Clone(rows), slices.Clone(row)
	up := rows[:4]
	for _, l := range [][]api.Grant{row[:0], row[:3], row[:255], row[:260]} {
		grants.Fits(up, row[0])
		grants.Check(up, l)
		grants.May(l, api.Grant{Actor: 1, From: 1, To: 0})
		grants.Sources(up, l, 3)
		b := grants.Put(l)
		clear(b)
		_ = append(b, 1, 2, 3)
	}
	if !slices.Equal(rows, wantRows) || !slices.Equal(row, wantRow) {
		t.Errorf("the arguments became %b and %v", rows, row)
	}
}

func TestBytesAreLeft(t *testing.T) {
	const text = "\x02\x03\x02\x01\x01\x01\x00spare"
	whole := []byte(text)
	l, e := grants.Get(whole[:7])
	if e != api.OK {
		t.Fatal(e)
	}
	clear(l)
	_ = append(l, api.Grant{}, api.Grant{})
	if string(whole) != text {
		t.Errorf("the argument became %q, want %q", whole, text)
	}
}

func TestResultsAreNewMemory(t *testing.T) {
	l := []api.Grant{{Actor: 3, From: 2, To: 1}, {Actor: 1, From: 1, To: 0}}
	b := grants.Put(l)
	clear(l)
	if string(b) != "\x02\x03\x02\x01\x01\x01\x00" {
		t.Errorf("Put became %x when its argument was changed", b)
	}
	again := grants.Put(nil)
	clear(again)
	_ = append(again, 1)
	if got := grants.Put(nil); string(got) != "\x00" {
		t.Errorf("Put(nil) = %x after an earlier result was changed", got)
	}
	out, _ := grants.Get(b)
	clear(b)
	want := []api.Grant{{Actor: 3, From: 2, To: 1}, {Actor: 1, From: 1, To: 0}}
	if !slices.Equal(out, want) {
		t.Errorf("Get became %v when its argument was changed", out)
	}
}
