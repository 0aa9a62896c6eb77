package cut_test

import (
	"iter"
	"math"
	"slices"
	"testing"

	"jalousie/api"
	"jalousie/cut"
)

// The signatures that the chapter lists: another one doesn't compile.
var (
	_ func([]int) int    = cut.Sum
	_ func([]int) int    = cut.At
	_ func([]int) bool   = cut.Low
	_ func(int, int) int = cut.Neighbour
)

// The numbers of the chapter, written out: a wrong constant doesn't make a wrong answer right.
const (
	room  = 122  // of a page
	low   = 30   // a sum below this is Low
	most  = 1000 // the greatest size
	small = 37   // the greatest size of P14.3
	both  = 159  // the greatest sum of P14.3
)

// dice produces numbers below one, which look like chance and are the same for one seed.
func dice(seed uint64) func(below int) int {
	return func(below int) int {
		seed = seed*6364136223846793005 + 1442695040888963407
		return int(seed >> 33 % uint64(below))
	}
}

// The promises, done as the chapter says them, index by index.

// plainSum adds from the last size on.
func plainSum(l []int) int {
	sum := 0
	for i := len(l) - 1; i >= 0; i-- {
		sum += l[i]
	}
	return sum
}

// greaterOf is the greater one of the two parts at an index.
func greaterOf(l []int, at int) int {
	ahead, behind := plainSum(l[:at]), plainSum(l[at:])
	if ahead > behind {
		return ahead
	}
	return behind
}

func plainAt(l []int) int {
	if plainSum(l) <= room || len(l) < 2 {
		return 0
	}
	var of []int // the greater part at each index, from 1 on
	for at := 1; at <= len(l)-1; at++ {
		of = append(of, greaterOf(l, at))
	}
	return 1 + slices.Index(of, slices.Min(of))
}

// What is asked. Each of these calls a function twice, for the first call may not change what the second one tells, with a list that has no room behind it and with one that has, and holds the whole memory of the list against what it was.

// copies is the same list without room behind it, and as a piece of a longer one.
func copies(l []int) [][]int {
	long := slices.Concat([]int{777}, l, []int{888, 0, 999})
	return [][]int{slices.Clip(slices.Clone(l)), long[1 : 1+len(l)]}
}

func asked[T comparable](t *testing.T, name string, call func([]int) T, l []int, want T) {
	t.Helper()
	for _, c := range copies(l) {
		memory := c[:cap(c)]
		was := slices.Clone(memory)
		for range 2 {
			if got := call(c); got != want {
				t.Fatalf("%s(%v) = %v, want %v", name, l, got, want)
			}
		}
		if !slices.Equal(memory, was) {
			t.Fatalf("%s changed %v to %v", name, was, memory)
		}
	}
}

func sum(t *testing.T, l []int, want int) {
	t.Helper()
	asked(t, "Sum", cut.Sum, l, want)
}

func at(t *testing.T, l []int, want int) {
	t.Helper()
	asked(t, "At", cut.At, l, want)
}

func isLow(t *testing.T, l []int, want bool) {
	t.Helper()
	asked(t, "Low", cut.Low, l, want)
}

func neighbour(t *testing.T, many, k, want int) {
	t.Helper()
	for range 2 {
		if got := cut.Neighbour(many, k); got != want {
			t.Fatalf("Neighbour(%d, %d) = %d, want %d", many, k, got, want)
		}
	}
}

// asChapter holds all that is told of sizes against the chapter's words.
func asChapter(t *testing.T, l []int) {
	t.Helper()
	sum(t, l, plainSum(l))
	at(t, l, plainAt(l))
	isLow(t, l, plainSum(l) < low)
}

// Rows of sizes.

// equal is so many sizes that are the same.
func equal(size, many int) []int { return slices.Repeat([]int{size}, many) }

// rising is so many sizes, each so much above the one ahead of it.
func rising(from, step, many int) []int {
	l := make([]int, many)
	for i := range l {
		l[i] = from + step*i
	}
	return l
}

// falling is the same the other way round.
func falling(from, step, many int) []int {
	l := rising(from, step, many)
	slices.Reverse(l)
	return l
}

// with is a row with a size put in at an index.
func with(l []int, i, size int) []int { return slices.Insert(slices.Clone(l), i, size) }

// rows produces all rows of at most so many of the sizes. A row is good until the next one.
func rows(sizes []int, longest int) iter.Seq[[]int] {
	return func(yield func([]int) bool) {
		var on func(l []int) bool
		on = func(l []int) bool {
			if !yield(l) {
				return false
			}
			for _, size := range sizes {
				if len(l) < longest && !on(append(l, size)) {
					return false
				}
			}
			return true
		}
		on(make([]int, 0, longest))
	}
}

// P14.1: Sum.

func TestSumKnown(t *testing.T) {
	for _, c := range []struct {
		l    []int
		want int
	}{
		{nil, 0},
		{[]int{}, 0},
		{[]int{0}, 0},
		{[]int{1}, 1},
		{[]int{122}, 122},
		{[]int{255}, 255},
		{[]int{256}, 256},
		{[]int{1000}, 1000},
		{[]int{0, 0, 0}, 0},
		{[]int{0, 7}, 7},
		{[]int{7, 0}, 7},
		{[]int{7, 7}, 14},
		{[]int{1, 20, 300}, 321},
		{[]int{300, 20, 1}, 321},
		{[]int{50, 50, 50}, 150},
		{[]int{0, 5, 0, 0, 6, 0}, 11},
		{[]int{1000, 1000}, 2000},
		{equal(0, 1000), 0},
		{equal(1, 1000), 1000},
		{equal(1000, 1000), 1000000},
		{rising(0, 1, 1001), 500500},
		{falling(0, 1, 1001), 500500},
	} {
		sum(t, c.l, c.want)
	}
}

// TestSumOfEach asks for each size, alone and among others at each index.
func TestSumOfEach(t *testing.T) {
	others := []int{3, 50, 700, 1000, 11}
	for size := range most + 1 {
		sum(t, []int{size}, size)
		for i := range len(others) + 1 {
			sum(t, with(others, i, size), 1764+size)
		}
	}
}

// TestSumOfMany asks for a sum that doesn't go into 32 bits.
func TestSumOfMany(t *testing.T) {
	sum(t, equal(most, 5000000), 5000000000)
}

// P14.1: At.

func TestAtExample(t *testing.T) {
	at(t, []int{50, 50, 50}, 1)
}

func TestAtOfNone(t *testing.T) {
	at(t, nil, 0)
	at(t, []int{}, 0)
}

// TestAtOfOne asks for a row that is too great, or not, and can't be parted.
func TestAtOfOne(t *testing.T) {
	for size := range most + 1 {
		at(t, []int{size}, 0)
	}
	at(t, []int{1 << 40}, 0)
	at(t, []int{math.MaxInt}, 0)
}

// TestAtOfTwo asks for each pair of sizes: they are parted between them, if they are too great together.
func TestAtOfTwo(t *testing.T) {
	for a := range 2 * room {
		for b := range 2 * room {
			want := 0
			if a+b > 122 {
				want = 1
			}
			at(t, []int{a, b}, want)
		}
	}
	for _, l := range [][]int{{1000, 1000}, {1000, 0}, {0, 1000}, {1000, 1}, {1, 1000}, {1000, 999}, {999, 1000}} {
		at(t, l, 1)
	}
}

func TestAtKnown(t *testing.T) {
	for _, c := range []struct {
		l    []int
		want int
	}{
		// Sums of 121, 122, 123 and above.
		{[]int{0, 0}, 0},
		{[]int{60, 61}, 0},
		{[]int{61, 61}, 0},
		{[]int{61, 62}, 1},
		{[]int{62, 61}, 1},
		{[]int{121, 0}, 0},
		{[]int{122, 0}, 0},
		{[]int{0, 122}, 0},
		{[]int{123, 0}, 1},
		{[]int{0, 123}, 1},
		{[]int{40, 40, 41}, 0},
		{[]int{40, 41, 41}, 0},
		{[]int{41, 41, 41}, 1},
		{[]int{1, 1, 120}, 0},
		{[]int{1, 1, 121}, 2},
		{[]int{121, 1, 1}, 1},
		{equal(1, 121), 0},
		{equal(1, 122), 0},
		{equal(1, 123), 61},
		{equal(1, 124), 62},
		{equal(2, 61), 0},
		{equal(2, 62), 31},
		{equal(1000, 3), 1},
		{equal(1000, 4), 2},
		// One index is the best, near each end and between.
		{[]int{90, 20, 20, 20}, 1},
		{[]int{20, 90, 20, 20}, 2},
		{[]int{20, 20, 90, 20}, 2},
		{[]int{20, 20, 20, 90}, 3},
		{[]int{10, 10, 10, 10, 10, 10, 10, 70}, 7},
		{[]int{70, 10, 10, 10, 10, 10, 10, 10}, 1},
		{[]int{60, 40, 50}, 1},
		{[]int{50, 40, 60}, 2},
		{[]int{60, 1, 62}, 2},
		{[]int{62, 1, 60}, 1},
		// Several are: the first one.
		{[]int{60, 40, 60}, 1},
		{[]int{1, 121, 1}, 1},
		{[]int{0, 123, 0}, 1},
		{[]int{0, 1000, 0}, 1},
		{[]int{30, 30, 40, 30, 30}, 2},
		{[]int{10, 20, 30, 40, 30, 20, 10}, 3},
		{[]int{62, 0, 62}, 1},
		{[]int{62, 0, 0, 0, 62}, 1},
		{[]int{31, 31, 0, 0, 31, 31}, 2},
		{[]int{60, 0, 40, 0, 60}, 1},
		// Noughts ahead, behind, between and all round.
		{[]int{0, 0, 123}, 1},
		{[]int{123, 0, 0}, 1},
		{[]int{0, 0, 0, 1000, 0, 0, 0}, 1},
		{[]int{0, 0, 62, 62}, 3},
		{[]int{62, 62, 0, 0}, 1},
		{[]int{0, 62, 0, 0, 62, 0}, 2},
		{[]int{0, 0, 62, 0, 0, 62, 0, 0}, 3},
		{[]int{0, 0, 62, 61, 0, 0}, 3},
		{[]int{0, 0, 61, 62, 0, 0}, 3},
		{[]int{0, 0, 50, 50, 50, 0, 0}, 3},
		{equal(0, 200), 0},
	} {
		at(t, c.l, c.want)
		asChapter(t, c.l)
	}
}

// TestAtOfSums asks for rows of each sum around the room of a page: how many sizes there are doesn't matter.
func TestAtOfSums(t *testing.T) {
	for total := room - 3; total <= room+3; total++ {
		for many := 2; many <= total+5; many++ {
			l := equal(0, many)
			for i := range total {
				l[i%many]++
			}
			if got := cut.At(l); (got != 0) != (total > 122) {
				t.Fatalf("At(%v) = %d, and the sum is %d", l, got, total)
			}
			asChapter(t, l)
		}
	}
}

// TestAtOfGreatOne asks for one great size at each index among small ones.
func TestAtOfGreatOne(t *testing.T) {
	for _, other := range []int{0, 1, 2, 5, 10, 37, 61, 62} {
		for _, great := range []int{62, 100, 121, 122, 123, 124, 500, 1000} {
			for many := 1; many <= 30; many++ {
				for i := range many + 1 {
					asChapter(t, with(equal(other, many), i, great))
				}
			}
		}
	}
}

// TestAtOfGreatOneKnown asks where a size that outweighs all others is: it stands at the beginning of the second part or at the end of the first one, whichever leaves it fewer others.
func TestAtOfGreatOneKnown(t *testing.T) {
	for many := 1; many <= 40; many++ {
		for i := range many + 1 {
			want := i // i others ahead of it, many-i behind it
			if i < many-i || i == 0 {
				want = i + 1
			}
			at(t, with(equal(3, many), i, most), want)
		}
	}
}

// TestAtOfEqual asks for equal sizes: of an even number each part has half, of an odd one the first part has one less.
func TestAtOfEqual(t *testing.T) {
	for _, size := range []int{1, 2, 3, 5, 17, 37, 61, 62, 122, 123, 999, 1000} {
		for many := range 260 {
			want := 0
			if size*many > 122 {
				want = many / 2
			}
			at(t, equal(size, many), want)
		}
	}
}

func TestAtOfRisingAndFalling(t *testing.T) {
	for _, step := range []int{1, 2, 7, 20} {
		for _, from := range []int{0, 1, 5, 30, 61, 100, 500} {
			for many := range 50 {
				if from+step*many > most {
					break
				}
				up, down := rising(from, step, many), falling(from, step, many)
				asChapter(t, up)
				asChapter(t, down)
				asChapter(t, slices.Concat(up, down))
				asChapter(t, slices.Concat(down, up))
			}
		}
	}
}

// TestAtOfNoughts asks for rows with noughts put in on end at each index.
func TestAtOfNoughts(t *testing.T) {
	for _, l := range [][]int{{123}, {61, 61}, {61, 62}, {62, 62}, {50, 50, 50}, {60, 40, 60}, {1, 121, 1}, {30, 31, 31, 31}, {20, 30, 40, 30, 20}, {1000, 5, 1000}} {
		for many := 1; many <= 6; many++ {
			for i := range len(l) + 1 {
				row := slices.Insert(slices.Clone(l), i, equal(0, many)...)
				asChapter(t, row)
				for k := range len(row) + 1 {
					asChapter(t, with(row, k, 0))
				}
			}
		}
	}
}

// TestAllShort asks for all rows of at most three, four and five sizes around where a page's room ends with so many.
func TestAllShort(t *testing.T) {
	for l := range rows([]int{0, 1, 39, 40, 41, 42, 43, 61, 62, 80, 81, 82, 83, 120, 121, 122, 123}, 3) {
		asChapter(t, l)
	}
	for l := range rows([]int{0, 1, 2, 29, 30, 31, 32, 33, 61, 62}, 4) {
		asChapter(t, l)
	}
	for l := range rows([]int{0, 1, 24, 25, 40, 41, 122, 1000}, 5) {
		asChapter(t, l)
	}
	for l := range rows([]int{0, 20, 21, 60}, 7) {
		asChapter(t, l)
	}
}

// TestAllAroundRoom asks for all rows of at most three and four small sizes whose sum is beside a page's room.
func TestAllAroundRoom(t *testing.T) {
	for _, c := range []struct{ below, longest int }{{70, 3}, {45, 4}} {
		for l := range rows(rising(0, 1, c.below), c.longest) {
			if total := plainSum(l); total >= room-2 && total <= room+3 {
				asChapter(t, l)
			}
		}
	}
}

// TestLongDrawn asks for long rows: of sizes of all ranges, with few great ones and with many noughts among them.
func TestLongDrawn(t *testing.T) {
	draw := dice(14)
	for range 4000 {
		l := make([]int, draw(150))
		below := []int{2, 3, 5, 20, 38, 124, 1001}[draw(7)]
		noughts, great := draw(3) == 0, draw(4) == 0
		for i := range l {
			l[i] = draw(below)
			if noughts && draw(3) > 0 {
				l[i] = 0
			}
			if great && draw(20) == 0 {
				l[i] = draw(most + 1)
			}
		}
		asChapter(t, l)
	}
}

// TestAtOfVeryMany asks for rows that no plain look at each index ends with in time.
func TestAtOfVeryMany(t *testing.T) {
	const many = 200000
	at(t, equal(1, many), many/2)
	at(t, equal(1000, many+1), many/2)
	at(t, equal(0, many), 0)
	at(t, with(equal(0, many), many/2, room), 0)
	at(t, with(equal(0, many), many/2, room+1), 1)
	at(t, slices.Concat(equal(0, many), []int{61, 62}, equal(0, many)), many+1)
}

// TestAtOfGreatSum asks for a sum that doesn't go into 32 bits.
func TestAtOfGreatSum(t *testing.T) {
	const many = 5000000
	at(t, equal(most, many), many/2)
	isLow(t, equal(most, many), false)
}

// P14.2: Low and Neighbour.

func TestLowKnown(t *testing.T) {
	for _, c := range []struct {
		l    []int
		want bool
	}{
		{nil, true},
		{[]int{}, true},
		{[]int{0}, true},
		{[]int{28}, true},
		{[]int{29}, true},
		{[]int{30}, false},
		{[]int{31}, false},
		{[]int{122}, false},
		{[]int{123}, false},
		{[]int{1000}, false},
		{[]int{29, 0}, true},
		{[]int{0, 30}, false},
		{[]int{14, 15}, true},
		{[]int{15, 15}, false},
		{[]int{15, 16}, false},
		{[]int{10, 10, 9}, true},
		{[]int{10, 10, 10}, false},
		{[]int{10, 10, 11}, false},
		{equal(0, 500), true},
		{equal(1, 29), true},
		{equal(1, 30), false},
		{equal(1, 31), false},
		{equal(5, 5), true},
		{equal(5, 6), false},
		{equal(1000, 1000), false},
	} {
		isLow(t, c.l, c.want)
	}
}

// TestLowOfEach asks for each size, alone, with noughts, and in two.
func TestLowOfEach(t *testing.T) {
	for size := range most + 1 {
		isLow(t, []int{size}, size < 30)
		isLow(t, []int{0, size, 0}, size < 30)
		isLow(t, []int{size / 2, size - size/2}, size < 30)
		isLow(t, equal(1, size), size < 30)
	}
	for a := range 35 {
		for b := range 35 {
			isLow(t, []int{a, b}, a+b < 30)
		}
	}
}

func TestNeighbourKnown(t *testing.T) {
	for _, c := range []struct{ many, k, want int }{
		{1, 0, -1}, // there is none
		{2, 0, 1},
		{2, 1, 0},
		{3, 0, 1},
		{3, 1, 2},
		{3, 2, 1},
		{5, 0, 1},
		{5, 2, 3},
		{5, 3, 4},
		{5, 4, 3},
		{100, 0, 1},
		{100, 50, 51},
		{100, 98, 99},
		{100, 99, 98},
		{math.MaxInt, 0, 1},
		{math.MaxInt, math.MaxInt - 2, math.MaxInt - 1},
		{math.MaxInt, math.MaxInt - 1, math.MaxInt - 2},
		// No kid's index, and no number of kids: the words go on.
		{0, 0, -1},
		{1, 1, 0},
		{1, -1, 0},
		{3, 3, 2},
		{3, 4, 3},
		{3, -1, 0},
		{3, -5, -4},
		{0, -1, -2},
		{-1, 0, -1},
		{-3, -5, -4},
		{-3, -4, -5},
		{-3, -3, -4},
		{0, math.MaxInt, math.MaxInt - 1},
		{math.MinInt, math.MaxInt, math.MaxInt - 1},
		{math.MaxInt, math.MaxInt, math.MaxInt - 1},
		{math.MinInt, 0, -1},
		{math.MinInt, math.MinInt + 1, math.MinInt},
		{math.MaxInt, math.MinInt, math.MinInt + 1},
		{0, math.MinInt, math.MinInt + 1},
	} {
		neighbour(t, c.many, c.k, c.want)
	}
}

// TestNeighbourOfEach asks for each kid of each number of kids: its neighbour is a kid too, and the next one if there is one.
func TestNeighbourOfEach(t *testing.T) {
	for many := 2; many <= 130; many++ {
		for k := range many {
			want := k + 1
			if k == many-1 {
				want = many - 2
			}
			neighbour(t, many, k, want)
			if got := cut.Neighbour(many, k); got < 0 || got >= many || got == k {
				t.Fatalf("Neighbour(%d, %d) = %d, which is no other kid", many, k, got)
			}
		}
	}
}

func TestNeighbourAsWords(t *testing.T) {
	for many := -20; many <= 20; many++ {
		for k := -25; k <= 25; k++ {
			want := k - 1
			if k+1 < many {
				want = k + 1
			}
			neighbour(t, many, k, want)
		}
	}
}

// P14.3.

// fits holds that sizes are parted, and that each part goes into a page and is not Low.
func fits(t *testing.T, l []int) {
	t.Helper()
	i := cut.At(l)
	if i < 1 || i > len(l)-1 {
		t.Fatalf("At(%v) = %d", l, i)
	}
	for _, part := range [][]int{l[:i], l[i:]} {
		if plainSum(part) > 122 || plainSum(part) < 30 {
			t.Fatalf("At(%v) = %d, and a part is %v, %d in all", l, i, part, plainSum(part))
		}
		at(t, part, 0)
		isLow(t, part, false)
	}
	asChapter(t, l)
}

// evenly holds that no index parts sizes more evenly than At, and none ahead of it as evenly.
func evenly(t *testing.T, l []int) {
	t.Helper()
	i := cut.At(l)
	if plainSum(l) <= 122 || len(l) < 2 {
		if i != 0 {
			t.Fatalf("At(%v) = %d", l, i)
		}
		return
	}
	if i < 1 || i >= len(l) {
		t.Fatalf("At(%v) = %d", l, i)
	}
	apart := func(k int) int {
		d := plainSum(l[:k]) - plainSum(l[k:])
		return max(d, -d)
	}
	for k := 1; k < len(l); k++ {
		if apart(k) < apart(i) || k < i && apart(k) == apart(i) {
			t.Fatalf("At(%v) = %d, where the parts are %d apart, and at %d %d", l, i, apart(i), k, apart(k))
		}
	}
}

// filled is sizes of a row's kind, in turn, cut to a sum: as many as it takes, the last one smaller.
func filled(kind []int, total int) []int {
	var l []int
	for i := 0; total > 0; i++ {
		size := min(kind[i%len(kind)], total)
		l = append(l, size)
		total -= size
	}
	return l
}

// TestBothFit asks for each sum above a page's room up to 159, with cells of each size up to 37, in each turn.
func TestBothFit(t *testing.T) {
	for total := room + 1; total <= both; total++ {
		for a := 1; a <= small; a++ {
			fits(t, filled([]int{a}, total))
			down := filled([]int{a}, total)
			slices.Reverse(down)
			fits(t, down)
			for _, b := range []int{0, 1, 4, 17, 36, 37} {
				fits(t, filled([]int{a, b}, total))
				fits(t, filled([]int{b, a, a}, total))
			}
		}
	}
}

// TestBothFitWithGreatest asks for one of 37 at each index among cells of each size, for sums of 123, of 159 and between.
func TestBothFitWithGreatest(t *testing.T) {
	for _, total := range []int{123, 124, 140, 158, 159} {
		for other := 1; other <= small; other++ {
			rest := filled([]int{other}, total-37)
			for i := range len(rest) + 1 {
				l := with(rest, i, 37)
				fits(t, l)
				fits(t, with(with(l, 0, 0), len(l)+1, 0))
				fits(t, with(l, i, 0))
			}
		}
	}
}

// TestBothFitOfAll asks for all rows of some sizes that have more than 122 and at most 159 together.
func TestBothFitOfAll(t *testing.T) {
	seen := map[int]int{}
	for _, sizes := range [][]int{{37, 36, 30, 25, 19}, {37, 24, 13}, {35, 34, 33, 32, 31}, {37, 0, 36}} {
		for l := range rows(sizes, 7) {
			if total := plainSum(l); total > room && total <= both {
				seen[total]++
				fits(t, l)
			}
		}
	}
	if seen[123] == 0 || seen[159] == 0 {
		t.Fatalf("no row of an edge among %v", seen)
	}
}

// TestBothFitOfDrawn asks for rows that are drawn: of cells of at most 37, noughts among them, each row cut to its sum.
func TestBothFitOfDrawn(t *testing.T) {
	draw := dice(37)
	for range 20000 {
		kind := make([]int, 1+draw(30))
		below := 1 + draw(small)
		for i := range kind {
			kind[i] = draw(below + 1)
		}
		kind[draw(len(kind))] = small - draw(3)
		fits(t, filled(kind, room+1+draw(both-room)))
	}
}

// TestEvenly asks for what goes in a page and what does not, also with cells that are greater than 37 or more than 159 together.
func TestEvenly(t *testing.T) {
	for l := range rows([]int{0, 1, 37, 38, 61, 62, 123, 500}, 5) {
		evenly(t, l)
	}
	for l := range rows([]int{0, 17, 40, 41}, 7) {
		evenly(t, l)
	}
	draw := dice(3)
	for range 5000 {
		l := make([]int, draw(60))
		below := []int{2, 5, 38, 124, 1001}[draw(5)]
		for i := range l {
			l[i] = draw(below)
		}
		evenly(t, l)
	}
}

// What holds for all of it.

// TestOneMoreCell asks, as a page fills up cell by cell: from the first cell on that doesn't go in, it is parted.
func TestOneMoreCell(t *testing.T) {
	draw := dice(9)
	for range 500 {
		var l []int
		for plainSum(l) <= room {
			asChapter(t, l)
			l = slices.Insert(l, draw(len(l)+1), 3+draw(35))
		}
		fits(t, l)
	}
}

// TestCallsStandAlone asks for one thing behind others: what was asked first doesn't matter.
func TestCallsStandAlone(t *testing.T) {
	l := [][]int{nil, {1000}, {50, 50, 50}, {0, 0, 123}, {20, 20, 20, 90}, {61, 61}, {29}, equal(1, 500)}
	for _, a := range l {
		for _, b := range l {
			for _, c := range [][]int{a, b, a} {
				asChapter(t, c)
			}
			neighbour(t, 3, len(a)%3, []int{1, 2, 1}[len(a)%3])
		}
	}
}

// TestBeyondBounds asks for sizes of which nothing is promised: no call panics, changes the list, or names an index that there isn't.
func TestBeyondBounds(t *testing.T) {
	for l := range rows([]int{math.MinInt, -1000, -1, 0, 122, 1001, 1 << 62, math.MaxInt}, 4) {
		was := slices.Clone(l)
		cut.Sum(l)
		cut.Low(l)
		if i := cut.At(l); i < 0 || i > 0 && i >= len(l) {
			t.Fatalf("At(%v) = %d", l, i)
		}
		if !slices.Equal(l, was) {
			t.Fatalf("a call changed %v to %v", was, l)
		}
	}
}

// TestRoomIsThePages holds the number of the chapter against the given one.
func TestRoomIsThePages(t *testing.T) {
	if api.Room != room {
		t.Fatalf("a page's room is %d, want %d", api.Room, room)
	}
}
