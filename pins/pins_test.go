package pins_test

import (
	"math"
	"runtime"
	"slices"
	"testing"

	"jalousie/pins"
)

// The signatures that the chapter lists: another one doesn't compile.
var (
	_ func() *pins.Pins               = pins.New
	_ func(*pins.Pins, uint64)        = (*pins.Pins).Pin
	_ func(*pins.Pins, uint64) bool   = (*pins.Pins).Unpin
	_ func(*pins.Pins, uint64) int    = (*pins.Pins).Held
	_ func(*pins.Pins) (uint64, bool) = (*pins.Pins).Oldest
	_ func(*pins.Pins) []uint64       = (*pins.Pins).All
)

// greatest is the greatest version, and half the least one above half of all versions.
const (
	greatest uint64 = math.MaxUint64
	half     uint64 = 1 << 63
)

// dice produces numbers below one, which look like chance and are the same for one seed.
func dice(seed uint64) func(below int) int {
	return func(below int) int {
		seed = seed*6364136223846793005 + 1442695040888963407
		return int(seed >> 33 % uint64(below))
	}
}

// versions is versions of all sizes, rising: each power of two, with those beside it.
func versions() []uint64 {
	out := []uint64{greatest - 1, greatest}
	for bit := range 64 {
		x := uint64(1) << bit
		out = append(out, x-1, x, x+1)
	}
	slices.Sort(out)
	return slices.Compact(out)
}

// groups is small rows of versions, rising, that differ in other bits each.
func groups() [][]uint64 {
	return [][]uint64{
		{0, 1, 2},
		{5, 6, 256 + 5},
		{0, 1<<32 - 1, 1 << 32},
		{7, 1<<16 + 7, 1<<32 + 7},
		{half - 1, half, half + 1},
		{0, half, greatest},
		{1, half + 1, greatest - 1},
		{half + 3, half + 5, greatest},
		{1 << 53, 1<<53 + 1, 1<<53 + 2},
	}
}

// orders is a row in each order.
func orders(l []uint64) [][]uint64 {
	if len(l) == 0 {
		return [][]uint64{nil}
	}
	var out [][]uint64
	for i, v := range l {
		rest := append(slices.Clone(l[:i]), l[i+1:]...)
		for _, o := range orders(rest) {
			out = append(out, append([]uint64{v}, o...))
		}
	}
	return out
}

// Pins, done as the chapter says it.

// plain is all pins, one beside the other, in the order in which they came.
type plain []uint64

func (l *plain) pin(v uint64) { *l = append(*l, v) }

func (l *plain) unpin(v uint64) bool {
	for i, w := range *l {
		if w == v {
			*l = append(slices.Clone((*l)[:i]), (*l)[i+1:]...)
			return true
		}
	}
	return false
}

func (l plain) held(v uint64) int {
	n := 0
	for _, w := range l {
		if w == v {
			n++
		}
	}
	return n
}

// least is the least pinned version of those that accept lets through.
func (l plain) least(accept func(v uint64) bool) (uint64, bool) {
	var out uint64
	found := false
	for _, v := range l {
		if accept(v) && (!found || v < out) {
			out, found = v, true
		}
	}
	return out, found
}

func (l plain) oldest() (uint64, bool) { return l.least(func(uint64) bool { return true }) }

func (l plain) all() []uint64 {
	var out []uint64
	for v, ok := l.oldest(); ok; v, ok = l.least(func(w uint64) bool { return w > v }) {
		out = append(out, v)
	}
	return out
}

// What is asked, and done.

// asked is versions that Held is asked about: those that are given, those beside them, and some in any case.
func asked(l []uint64) []uint64 {
	out := []uint64{0, 1, 2, 3, 1 << 32, half - 1, half, half + 1, greatest - 1, greatest}
	for _, v := range l {
		out = append(out, v-1, v, v+1, v^half, v^1<<32)
	}
	slices.Sort(out)
	return slices.Compact(out)
}

// holds holds what p tells of the pins that it should have, of the versions beside them and of others. It asks twice, for asking changes nothing.
func holds(t *testing.T, p *pins.Pins, l plain, others ...uint64) {
	t.Helper()
	all := l.all()
	oldest, found := l.oldest()
	about := asked(append(slices.Clone(all), others...))
	for range 2 {
		if v, ok := p.Oldest(); v != oldest || ok != found {
			t.Fatalf("Oldest = %d, %v, want %d, %v; pinned are %v", v, ok, oldest, found, l)
		}
		if got := p.All(); !slices.Equal(got, all) {
			t.Fatalf("All = %v, want %v; pinned are %v", got, all, l)
		}
		for _, v := range about {
			if got, want := p.Held(v), l.held(v); got != want {
				t.Fatalf("Held(%d) = %d, want %d; pinned are %v", v, got, want, l)
			}
		}
	}
}

// unpinned holds what Unpin tells.
func unpinned(t *testing.T, p *pins.Pins, v uint64, want bool) {
	t.Helper()
	if got := p.Unpin(v); got != want {
		t.Fatalf("Unpin(%d) = %v, want %v", v, got, want)
	}
}

// held holds what Held tells of one version.
func held(t *testing.T, p *pins.Pins, v uint64, want int) {
	t.Helper()
	if got := p.Held(v); got != want {
		t.Fatalf("Held(%d) = %d, want %d", v, got, want)
	}
}

// oldest holds that there is an oldest version, and which.
func oldest(t *testing.T, p *pins.Pins, want uint64) {
	t.Helper()
	if v, ok := p.Oldest(); v != want || !ok {
		t.Fatalf("Oldest = %d, %v, want %d, true", v, ok, want)
	}
}

// pinned is new Pins of versions, in their order.
func pinned(l ...uint64) *pins.Pins {
	p := pins.New()
	for _, v := range l {
		p.Pin(v)
	}
	return p
}

// P12.1

func TestNew(t *testing.T) {
	if pins.New() == nil {
		t.Fatal("New = nil")
	}
	holds(t, pins.New(), nil, versions()...)
	for _, v := range versions() {
		p := pins.New()
		unpinned(t, p, v, false)
		holds(t, p, nil, v)
		p = pins.New()
		p.Pin(v)
		holds(t, p, plain{v})
	}
}

// TestOfZeroValue has Pins that New didn't make.
func TestOfZeroValue(t *testing.T) {
	p := &pins.Pins{}
	holds(t, p, nil, versions()...)
	unpinned(t, p, 0, false)
	holds(t, p, nil)
	p.Pin(4)
	p.Pin(4)
	holds(t, p, plain{4, 4})
	unpinned(t, p, 4, true)
	unpinned(t, p, 4, true)
	unpinned(t, p, 4, false)
	holds(t, p, nil, 4)
}

func TestPinOfEachVersion(t *testing.T) {
	for _, v := range versions() {
		p := pins.New()
		var l plain
		for range 4 {
			p.Pin(v)
			l.pin(v)
			holds(t, p, l)
		}
	}
}

// TestPinManyTimes pins and unpins more often than two bytes can count.
func TestPinManyTimes(t *testing.T) {
	const many = 1<<17 + 3
	for _, v := range []uint64{0, 1, 70000, half - 1, half, greatest} {
		p := pinned(9)
		for i := range many {
			p.Pin(v)
			held(t, p, v, i+1)
		}
		held(t, p, 9, 1)
		if got, want := p.All(), (plain{9, v}).all(); !slices.Equal(got, want) {
			t.Fatalf("All = %v, want %v", got, want)
		}
		for i := range many {
			unpinned(t, p, v, true)
			held(t, p, v, many-i-1)
		}
		unpinned(t, p, v, false)
		holds(t, p, plain{9}, v)
	}
}

func TestUnpinOfNone(t *testing.T) {
	for _, v := range versions() {
		for _, l := range []plain{nil, {v + 1}, {v - 1}, {v ^ half}, {v - 1, v + 1, v + 1}, {v ^ half, v ^ 1, v ^ 1<<32}} {
			p := pinned(l...)
			for range 3 {
				unpinned(t, p, v, false)
				holds(t, p, l, v)
			}
			// What was taken from nothing is not owed.
			p.Pin(v)
			l.pin(v)
			holds(t, p, l)
		}
	}
}

func TestUnpinOfOnce(t *testing.T) {
	for _, v := range versions() {
		p := pinned(v)
		unpinned(t, p, v, true)
		holds(t, p, nil, v)
		unpinned(t, p, v, false)
		holds(t, p, nil, v)
	}
}

// TestUnpinOfOften unpins once for each pin and once more, and then pins again, fewer times and more times than ahead.
func TestUnpinOfOften(t *testing.T) {
	for _, v := range versions() {
		p := pins.New()
		var l plain
		for _, times := range []int{2, 1, 3, 7, 2} {
			for range times {
				p.Pin(v)
				l.pin(v)
			}
			holds(t, p, l)
			for range times {
				unpinned(t, p, v, true)
				l.unpin(v)
				holds(t, p, l, v)
			}
			unpinned(t, p, v, false)
			holds(t, p, nil, v)
		}
	}
}

// TestPinBetweenUnpins pins a version again while it is still held.
func TestPinBetweenUnpins(t *testing.T) {
	for _, v := range []uint64{0, 1, half - 1, half, greatest} {
		p := pinned(v, v)
		for _, n := range []int{1, 2, 3, 2, 1, 0, 1, 2, 1, 0} {
			if p.Held(v) < n {
				p.Pin(v)
			} else {
				unpinned(t, p, v, true)
			}
			held(t, p, v, n)
		}
		unpinned(t, p, v, false)
		holds(t, p, nil, v)
	}
}

// TestOthersAreNotTouched pins and unpins a version among all others.
func TestOthersAreNotTouched(t *testing.T) {
	l := plain(versions())
	p := pinned(l...)
	for _, v := range versions() {
		p.Pin(v)
		for _, w := range versions() {
			want := 1
			if w == v {
				want = 2
			}
			held(t, p, w, want)
		}
		unpinned(t, p, v, true)
		unpinned(t, p, v, true)
		for _, w := range versions() {
			want := 1
			if w == v {
				want = 0
			}
			held(t, p, w, want)
		}
		p.Pin(v)
	}
	holds(t, p, l)
}

func TestExample(t *testing.T) {
	p := pinned(4, 2, 4)
	holds(t, p, plain{4, 2, 4})
	oldest(t, p, 2)
	unpinned(t, p, 2, true)
	oldest(t, p, 4)
	held(t, p, 4, 2)
	holds(t, p, plain{4, 4}, 2)
}

// P12.2

func TestOldestAndAllOfNone(t *testing.T) {
	for _, p := range []*pins.Pins{pins.New(), {}, nil} {
		if v, ok := p.Oldest(); v != 0 || ok {
			t.Errorf("Oldest = %d, %v, want 0, false", v, ok)
		}
		if l := p.All(); len(l) != 0 {
			t.Errorf("All = %v, want none", l)
		}
	}
}

func TestOldestAndAllOfOne(t *testing.T) {
	for _, v := range versions() {
		p := pinned(v)
		oldest(t, p, v) // version 0 too, and true
		if l := p.All(); len(l) != 1 || l[0] != v {
			t.Errorf("All = %v, want %d", l, v)
		}
		unpinned(t, p, v, true)
		if w, ok := p.Oldest(); w != 0 || ok {
			t.Errorf("Oldest = %d, %v behind the last Unpin, want 0, false", w, ok)
		}
		if l := p.All(); len(l) != 0 {
			t.Errorf("All = %v behind the last Unpin, want none", l)
		}
	}
}

func TestOldestAndAllKnown(t *testing.T) {
	for _, x := range []struct{ pinned, all []uint64 }{
		{[]uint64{1, 2, 3}, []uint64{1, 2, 3}},
		{[]uint64{3, 2, 1}, []uint64{1, 2, 3}},
		{[]uint64{2, 3, 1}, []uint64{1, 2, 3}},
		{[]uint64{10, 9, 100, 1}, []uint64{1, 9, 10, 100}}, // numbers, not texts
		{[]uint64{256, 1, 255, 2}, []uint64{1, 2, 255, 256}},
		{[]uint64{greatest, 0}, []uint64{0, greatest}},
		{[]uint64{half, 1, half - 1, greatest}, []uint64{1, half - 1, half, greatest}}, // above half they aren't below 0
		{[]uint64{1 << 32, 1<<32 - 1, 1<<33 + 1, 2}, []uint64{2, 1<<32 - 1, 1 << 32, 1<<33 + 1}},
		{[]uint64{1<<53 + 1, 1 << 53}, []uint64{1 << 53, 1<<53 + 1}},
		{[]uint64{7, 7, 7}, []uint64{7}},
		{[]uint64{5, 3, 5, 3, 9, 3}, []uint64{3, 5, 9}},
		{[]uint64{0, 0, greatest, 0, greatest}, []uint64{0, greatest}},
	} {
		p := pinned(x.pinned...)
		if got := p.All(); !slices.Equal(got, x.all) {
			t.Errorf("All = %v, want %v", got, x.all)
		}
		oldest(t, p, x.all[0])
	}
}

// TestOldestAndAllInEachOrder pins some versions once, twice or three times, in each order.
func TestOldestAndAllInEachOrder(t *testing.T) {
	for _, g := range groups() {
		for _, l := range [][]uint64{g, {g[0], g[0], g[1], g[2]}, {g[0], g[1], g[2], g[2], g[2]}} {
			for _, order := range orders(l) {
				p := pins.New()
				var now plain
				for _, v := range order {
					p.Pin(v)
					now.pin(v)
					holds(t, p, now, g...)
				}
			}
		}
	}
}

func TestOldestAndAllOfAllSizes(t *testing.T) {
	l := versions()
	roll := dice(1)
	for range 40 {
		for i := range l {
			k := i + roll(len(l)-i)
			l[i], l[k] = l[k], l[i]
		}
		holds(t, pinned(l...), l)
		holds(t, pinned(slices.Repeat(l, 2)...), slices.Repeat(l, 2))
	}
}

// TestUnpinOfTheOldest unpins the oldest version once of twice, then wholly, then the next one, up to the last one.
func TestUnpinOfTheOldest(t *testing.T) {
	for _, g := range groups() {
		for _, order := range orders(g) {
			l := plain(slices.Repeat(order, 2))
			p := pinned(l...)
			for _, v := range g {
				oldest(t, p, v)
				unpinned(t, p, v, true)
				l.unpin(v)
				oldest(t, p, v)
				holds(t, p, l, g...)
				unpinned(t, p, v, true)
				l.unpin(v)
				holds(t, p, l, g...)
			}
			holds(t, p, nil, g...)
		}
	}
}

// TestUnpinOfAnother unpins versions that are not the oldest one, wholly; the oldest one stays.
func TestUnpinOfAnother(t *testing.T) {
	for _, g := range groups() {
		for _, order := range orders(g) {
			for _, others := range orders(g[1:]) {
				p := pinned(order...)
				l := plain(slices.Clone(order))
				for _, v := range others {
					unpinned(t, p, v, true)
					l.unpin(v)
					oldest(t, p, g[0])
					holds(t, p, l, g...)
				}
				if got := p.All(); !slices.Equal(got, g[:1]) {
					t.Fatalf("All = %v, want %v", got, g[:1])
				}
			}
		}
	}
}

// TestOlderThanTheOldest pins ever older versions, of which each is the oldest one till it is unpinned.
func TestOlderThanTheOldest(t *testing.T) {
	l := versions()
	p := pins.New()
	for i := len(l) - 1; i >= 0; i-- {
		p.Pin(l[i])
		oldest(t, p, l[i])
		if got := p.All(); !slices.Equal(got, l[i:]) {
			t.Fatalf("All = %v, want %v", got, l[i:])
		}
	}
	for i, v := range l {
		oldest(t, p, v)
		unpinned(t, p, v, true)
		if got := p.All(); !slices.Equal(got, l[i+1:]) {
			t.Fatalf("All = %v, want %v", got, l[i+1:])
		}
	}
	holds(t, p, nil, l...)
}

// TestManyVersions holds many at one time, in no order.
func TestManyVersions(t *testing.T) {
	const many = 20000
	p := pins.New()
	var want []uint64
	for i := range uint64(many) {
		v := i * 0x9e3779b97f4a7c15 // odd, so no two products are equal
		want = append(want, v)
		p.Pin(v)
		if i%3 == 0 {
			p.Pin(v)
		}
	}
	first := slices.Clone(want)
	slices.Sort(want)
	if !slices.Equal(p.All(), want) {
		t.Fatal("All is not the many versions, rising")
	}
	oldest(t, p, 0)
	for i, v := range first {
		if i%3 == 0 {
			held(t, p, v, 2)
		} else {
			held(t, p, v, 1)
		}
		unpinned(t, p, v, true)
	}
	var left []uint64
	for i := 0; i < many; i += 3 {
		left = append(left, first[i])
	}
	slices.Sort(left)
	if !slices.Equal(p.All(), left) {
		t.Fatal("All is not the versions that were pinned twice, rising")
	}
	for _, v := range left[:200] {
		oldest(t, p, v)
		unpinned(t, p, v, true)
	}
	oldest(t, p, left[200])
}

func TestNilPins(t *testing.T) {
	var p *pins.Pins
	for _, v := range versions() {
		for range 2 {
			p.Pin(v)
			unpinned(t, p, v, false)
			held(t, p, v, 0)
			p.Pin(v)
			if w, ok := p.Oldest(); w != 0 || ok {
				t.Fatalf("Oldest of nil = %d, %v, want 0, false", w, ok)
			}
			if l := p.All(); len(l) != 0 {
				t.Fatalf("All of nil = %v, want none", l)
			}
		}
	}
	holds(t, p, nil, versions()...)
	holds(t, pins.New(), nil, versions()...) // what nil was asked for is nowhere
}

// P12.3

// TestUnpinnedAsOftenAsPinned pins in each order, and unpins in each.
func TestUnpinnedAsOftenAsPinned(t *testing.T) {
	for _, g := range groups() {
		l := []uint64{g[0], g[1], g[1], g[2]}
		for _, in := range orders(l) {
			for _, out := range orders(l) {
				p := pinned(in...)
				for _, v := range out {
					unpinned(t, p, v, true)
				}
				holds(t, p, nil, g...)
				for _, v := range g {
					unpinned(t, p, v, false)
				}
			}
		}
	}
}

// TestOneUnpinnedAsOftenAsPinned takes one version after another away while the others stay.
func TestOneUnpinnedAsOftenAsPinned(t *testing.T) {
	roll := dice(2)
	for range 200 {
		var l plain
		p := pins.New()
		for range 1 + roll(30) {
			v := versions()[roll(len(versions()))]
			for range 1 + roll(4) {
				p.Pin(v)
				l.pin(v)
			}
		}
		for len(l) > 0 {
			v := l[roll(len(l))]
			for range l.held(v) {
				unpinned(t, p, v, true)
				l.unpin(v)
			}
			held(t, p, v, 0)
			if slices.Contains(p.All(), v) {
				t.Fatalf("All has %d, which was unpinned as often as pinned", v)
			}
			if w, ok := p.Oldest(); ok && w == v {
				t.Fatalf("Oldest is %d, which was unpinned as often as pinned", v)
			}
			unpinned(t, p, v, false)
			holds(t, p, l, v)
		}
	}
}

// TestPinsAndUnpinsBetweenEachOther does each row of six pins and unpins of two versions.
func TestPinsAndUnpinsBetweenEachOther(t *testing.T) {
	for _, g := range groups() {
		for row := range 1 << 12 { // two bits for each call
			p := pins.New()
			var l plain
			for i := range 6 {
				v := g[1+row>>(2*i)&1]
				if row>>(2*i+1)&1 == 0 {
					p.Pin(v)
					l.pin(v)
				} else if got, want := p.Unpin(v), l.unpin(v); got != want {
					t.Fatalf("Unpin(%d) = %v, want %v", v, got, want)
				}
			}
			holds(t, p, l, g...)
		}
	}
}

// All promises, by calls in any order.

func TestAnyCalls(t *testing.T) {
	for seed := range uint64(120) {
		roll := dice(seed)
		some := versions()
		for i := range some {
			k := i + roll(len(some)-i)
			some[i], some[k] = some[k], some[i]
		}
		some = some[:1+roll(12)]
		p := pins.New()
		var l plain
		var pinning int // so many of ten calls pin
		for i := range 600 {
			if i%100 == 0 {
				pinning = 2 + roll(7)
			}
			v := some[roll(len(some))]
			if roll(10) < pinning {
				p.Pin(v)
				l.pin(v)
			} else if got, want := p.Unpin(v), l.unpin(v); got != want {
				t.Fatalf("Unpin(%d) = %v, want %v; pinned are %v", v, got, want, l)
			}
			// Of every second one much goes by unasked.
			if seed%2 == 0 || roll(40) == 0 {
				holds(t, p, l, some...)
			}
		}
		holds(t, p, l, some...)
	}
}

// TestManyPinsAtOnce does other calls with each of many Pins in turn: no two of them share anything.
func TestManyPinsAtOnce(t *testing.T) {
	roll := dice(3)
	const many = 20
	ps, ls := make([]*pins.Pins, many), make([]plain, many)
	for i := range ps {
		ps[i] = pins.New()
	}
	for range 4000 {
		i, v := roll(many), uint64(roll(8))
		if roll(2) == 0 {
			ps[i].Pin(v)
			ls[i].pin(v)
		} else if got, want := ps[i].Unpin(v), ls[i].unpin(v); got != want {
			t.Fatalf("Unpin(%d) = %v, want %v; pinned are %v", v, got, want, ls[i])
		}
		k := roll(many)
		holds(t, ps[k], ls[k])
	}
	for i, p := range ps {
		holds(t, p, ls[i])
	}
}

func TestTwoPinsShareNothing(t *testing.T) {
	for _, v := range []uint64{0, 1, half, greatest} {
		a, b := pins.New(), pins.New()
		if a == b {
			t.Fatal("New = what it was ahead")
		}
		a.Pin(v)
		holds(t, a, plain{v})
		holds(t, b, nil, v)
		unpinned(t, b, v, false)
		holds(t, a, plain{v})
		b.Pin(v)
		b.Pin(v)
		b.Pin(v ^ 1)
		holds(t, a, plain{v})
		unpinned(t, a, v, true)
		holds(t, a, nil, v)
		holds(t, b, plain{v, v, v ^ 1})
		holds(t, pins.New(), nil, v)
	}
}

// Rules 3 and 4: results are in new memory, and depend on the pins alone.

func TestAllIsItsOwn(t *testing.T) {
	for _, l := range []plain{{7}, {0, greatest}, {3, 9, 3, half, 5}, versions()} {
		p := pinned(l...)
		first, second := p.All(), p.All()
		for i := range first {
			first[i] = 77 + uint64(i)
		}
		clear(append(first, 78, 79))
		clear(first[:cap(first)])
		if !slices.Equal(second, l.all()) {
			t.Errorf("one result of All became %v when another one was changed, want %v", second, l.all())
		}
		holds(t, p, l, 77, 78, 79)
		unpinned(t, p, 77, false)
		for _, v := range l {
			unpinned(t, p, v, true)
		}
		holds(t, p, nil, l...)
	}
}

func TestAllStaysAsItWas(t *testing.T) {
	p := pinned(5, 3, 9)
	a := p.All()
	p.Pin(1)
	p.Pin(4)
	p.Pin(20)
	b := p.All()
	for _, v := range []uint64{3, 5, 9, 1} {
		unpinned(t, p, v, true)
	}
	c := p.All()
	p.Pin(2)
	p.Unpin(4)
	d := p.All()
	p.Unpin(20)
	p.Unpin(2)
	for i, x := range []struct{ got, want []uint64 }{{a, []uint64{3, 5, 9}}, {b, []uint64{1, 3, 4, 5, 9, 20}}, {c, []uint64{4, 20}}, {d, []uint64{2, 20}}, {p.All(), nil}} {
		if !slices.Equal(x.got, x.want) {
			t.Errorf("result %d of All became %v, want %v", i, x.got, x.want)
		}
	}
}

// TestEachResultOfAllStays keeps what All told at each step of a long row of calls.
func TestEachResultOfAllStays(t *testing.T) {
	roll := dice(4)
	p := pins.New()
	var l plain
	var told, want [][]uint64
	for range 2000 {
		v := uint64(roll(20))
		if roll(2) == 0 {
			p.Pin(v)
			l.pin(v)
		} else {
			p.Unpin(v)
			l.unpin(v)
		}
		told, want = append(told, p.All()), append(want, l.all())
	}
	for i := range told {
		if !slices.Equal(told[i], want[i]) {
			t.Fatalf("what All told at step %d is %v now, want %v", i, told[i], want[i])
		}
	}
}

// TestWayDoesNotMatter comes to the same pins by other calls.
func TestWayDoesNotMatter(t *testing.T) {
	l := plain{6, half, 2, 6, greatest, 0}
	straight := pinned(l...)
	turned := pins.New()
	for i := len(l) - 1; i >= 0; i-- {
		turned.Pin(l[i])
	}
	round := pinned(versions()...)
	for _, v := range l {
		round.Pin(v)
	}
	for _, v := range versions() {
		unpinned(t, round, v, true)
		unpinned(t, pins.New(), v, false)
	}
	for range 100 { // a map's order is another one each time
		for _, p := range []*pins.Pins{straight, turned, round} {
			holds(t, p, l, versions()...)
		}
	}
}

// TestKeepsWhatIsPinnedAlone pins and unpins so many versions that it would be seen if they were kept.
func TestKeepsWhatIsPinnedAlone(t *testing.T) {
	const many = 1 << 20
	p := pinned(4)
	inUse := func() uint64 {
		var m runtime.MemStats
		runtime.GC()
		runtime.ReadMemStats(&m)
		return m.HeapAlloc
	}
	ahead := inUse()
	for v := range uint64(many) {
		p.Pin(v << 20)
		unpinned(t, p, v<<20, true)
	}
	if behind := inUse(); behind > ahead+many {
		t.Errorf("%d bytes more are in use behind %d pins and unpins", behind-ahead, many)
	}
	holds(t, p, plain{4}, 0, 1<<20)
}
