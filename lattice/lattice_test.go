package lattice_test

import (
	"bytes"
	"encoding/binary"
	"math"
	"math/bits"
	"slices"
	"testing"

	"jalousie/api"
	"jalousie/lattice"
)

// The signatures that the chapter lists: another one doesn't compile.
var (
	_ func([]uint64) bool                = lattice.Check
	_ func([]uint64, int, int) bool      = lattice.Leq
	_ func([]uint64, int) uint64         = lattice.Down
	_ func(uint64) []int                 = lattice.List
	_ func([]uint64, int, int) int       = lattice.Join
	_ func([]uint64, int, int) int       = lattice.Meet
	_ func([]uint64) []uint64            = lattice.Close
	_ func([]uint64) ([]byte, api.Errno) = lattice.Put
	_ func([]byte) ([]uint64, api.Errno) = lattice.Get
)

const all = math.MaxUint64

// The promises, done as the chapter says them, label by label.

// plainLeq tells whether both are labels, and the bit is 1.
func plainLeq(up []uint64, a, b int) bool {
	n := len(up)
	return n <= 64 && a >= 0 && a < n && b >= 0 && b < n && up[a]/(1<<b)%2 == 1
}

func plainDown(up []uint64, a int) uint64 {
	var set uint64
	for c := range min(len(up), 64) {
		if plainLeq(up, c, a) {
			set += 1 << c
		}
	}
	return set
}

// plainBest is the first bound that flows, as leq tells, to all of the bounds.
func plainBest(labels, a, b int, leq func(a, b int) bool) int {
	for c := range labels {
		best := leq(a, c) && leq(b, c)
		for d := range labels {
			if leq(a, d) && leq(b, d) && !leq(c, d) {
				best = false
			}
		}
		if best {
			return c
		}
	}
	return -1
}

func plainJoin(up []uint64, a, b int) int {
	return plainBest(len(up), a, b, func(c, d int) bool { return plainLeq(up, c, d) })
}

func plainMeet(up []uint64, a, b int) int {
	return plainBest(len(up), a, b, func(c, d int) bool { return plainLeq(up, d, c) })
}

func plainCheck(up []uint64) bool {
	n := len(up)
	if n < 1 || n > 64 {
		return false
	}
	for a := range n {
		if !plainLeq(up, a, a) || n < 64 && up[a]>>n > 0 {
			return false
		}
		for b := range n {
			if a != b && plainLeq(up, a, b) && plainLeq(up, b, a) || plainJoin(up, a, b) < 0 || plainMeet(up, a, b) < 0 {
				return false
			}
			for c := range n {
				if plainLeq(up, a, b) && plainLeq(up, b, c) && !plainLeq(up, a, c) {
					return false
				}
			}
		}
	}
	return true
}

// plainClose adds what is missing, bit by bit, till nothing is.
func plainClose(up []uint64) []uint64 {
	n := len(up)
	if n > 64 {
		return nil
	}
	out := make([]uint64, n)
	for a := range n {
		for b := range n {
			if a == b || plainLeq(up, a, b) {
				out[a] |= 1 << b
			}
		}
	}
	for changed := true; changed; {
		changed = false
		for a := range n {
			for b := range n {
				for c := range n {
					if plainLeq(out, a, b) && plainLeq(out, b, c) && !plainLeq(out, a, c) {
						out[a] |= 1 << c
						changed = true
					}
				}
			}
		}
	}
	return out
}

// plainPut is the bytes of any rows.
func plainPut(up []uint64) []byte {
	b := []byte{byte(len(up))}
	for _, row := range up {
		b = binary.BigEndian.AppendUint64(b, row)
	}
	return b
}

// Rows.

// chain is so many labels, each of which flows to those behind it.
func chain(n int) []uint64 {
	up := make([]uint64, n)
	for c := range up {
		up[c] = all << c & (1<<n - 1)
	}
	return up
}

// antichain is so many labels, each of which flows to itself alone.
func antichain(n int) []uint64 {
	up := make([]uint64, n)
	for c := range up {
		up[c] = 1 << c
	}
	return up
}

// sets is a label for each set of n things, which flows to the sets that hold it: 2^n labels.
func sets(n int) []uint64 {
	up := make([]uint64, 1<<n)
	for a := range up {
		for b := range up {
			if a&b == a {
				up[a] |= 1 << b
			}
		}
	}
	return up
}

// wide is a label below all others and one above them, of n labels: the first and the last.
func wide(n int) []uint64 {
	up := antichain(n)
	for c := range up {
		up[0] |= 1 << c
		up[c] |= 1 << (n - 1)
	}
	return up
}

// renamed is rows with label a called (a*times+by) modulo their number; times has no divisor in common with it.
func renamed(up []uint64, times, by int) []uint64 {
	n := len(up)
	out := make([]uint64, n)
	for a := range n {
		for b := range n {
			if up[a]>>b&1 == 1 {
				out[(a*times+by)%n] |= 1 << ((b*times + by) % n)
			}
		}
	}
	return out
}

// dice produces numbers that look like chance, the same for one seed.
func dice(seed uint64) func() uint64 {
	return func() uint64 {
		seed += 0x9e3779b97f4a7c15
		x := seed
		x = (x ^ x>>30) * 0xbf58476d1ce4e5b9
		x = (x ^ x>>27) * 0x94d049bb133111eb
		return x ^ x>>31
	}
}

// lattices are lattices of many shapes and sizes, with labels in many orders.
func lattices() [][]uint64 {
	out := [][]uint64{
		{3, 2},                    // the chapter's example
		{1, 3},                    // turned round
		{0b11111, 18, 20, 24, 16}, // three labels between two
		{0b11111, 22, 20, 24, 16}, // a chain of two, and one, between two
	}
	for n := 1; n <= 8; n++ {
		out = append(out, chain(n))
	}
	for n := 3; n <= 9; n++ {
		out = append(out, wide(n))
	}
	out = append(out, sets(0), sets(1), sets(2), sets(3), sets(4), chain(63), wide(63), chain(64), wide(64), sets(6))
	for _, up := range slices.Clone(out) {
		out = append(out, renamed(up, 1, 1), renamed(up, len(up)-1, 0))
	}
	return append(out, renamed(sets(6), 5, 3), renamed(wide(64), 27, 11))
}

// others are rows that are no lattice, though there are no more than 64.
func others() [][]uint64 {
	out := [][]uint64{
		nil,
		{},
		{0},
		{2},                      // to no label, and not to itself
		{3},                      // to itself, and to no label
		{1 | 1<<63},              // to the last bit
		{all},                    // to all bits
		{3, 3},                   // each to the other
		{2, 1},                   // the same, and neither to itself
		{3, 0},                   // the second not to itself
		{2, 2},                   // the first not to itself
		{0, 0},                   // to nothing
		{3, 6, 4},                // 0 to 1 to 2, but not to 2
		{7, 6, 5},                // 2 to 0, and back
		{7, 2, 4},                // no Join of 1 and 2
		{5, 6, 4},                // no Meet of 0 and 1
		{13, 14, 4, 8},           // two below two: neither
		{15, 6, 4},               // 3 is no label
		{7, 6 | 1<<63, 4},        // 63 is none
		{63, 58, 60, 40, 48},     // 5 is none
		{63, 58, 60, 40, 48, 32}, // two below two, with ends: bounds, but no nearest ones
	}
	for n := 2; n <= 6; n++ {
		out = append(out, antichain(n))
	}
	return append(out, antichain(64), make([]uint64, 64), slices.Repeat([]uint64{all}, 64),
		without(chain(64), 0, 63), without(chain(64), 63, 63), without(sets(6), 0, 63), without(wide(64), 62, 63))
}

// without is rows but for a bit of a label's row.
func without(up []uint64, a, b int) []uint64 {
	out := slices.Clone(up)
	out[a] &^= 1 << b
	return out
}

// tooMany are rows of more than 64 labels; the first 64 of some are a lattice.
func tooMany() [][]uint64 {
	return [][]uint64{
		make([]uint64, 65),
		append(chain(64), all),
		append(sets(6), 0),
		append(sets(6), 1<<63),
		append(antichain(64), 0),
		slices.Repeat([]uint64{all}, 65),
		slices.Repeat([]uint64{all}, 128),
		slices.Repeat([]uint64{all}, 1000),
		slices.Repeat([]uint64{1}, 257),
	}
}

// small calls what it is given with all rows of up to three labels, with one bit more than there are labels, and with many of four.
func small(f func(up []uint64)) {
	for n := range 4 {
		wide := n + 1
		for x := range uint64(1) << (n * wide) {
			f(cut(x, n, wide))
		}
	}
	for x := range uint64(1) << 16 {
		f(cut(x, 4, 4))
	}
}

// cut is so many rows, each of so many bits of a number.
func cut(x uint64, n, wide int) []uint64 {
	up := make([]uint64, n)
	for c := range up {
		up[c] = x >> (c * wide) & (1<<wide - 1)
	}
	return up
}

// wild are rows that look like chance, sparse and dense, of 5 to 64 labels and with bits that are none.
func wild() [][]uint64 {
	var out [][]uint64
	roll := dice(1)
	for i := range 200 {
		up := make([]uint64, 5+int(roll()%60))
		for c := range up {
			switch i % 4 {
			case 0:
				up[c] = roll()
			case 1:
				up[c] = roll() & roll() & roll() & roll() & roll() & roll()
			case 2:
				up[c] = roll() | roll() | roll() | 1<<c
			default:
				up[c] = roll() & roll() & roll() & (all << c) & (1<<len(up) - 1)
			}
		}
		out = append(out, up)
	}
	return out
}

// larger are all rows but those of small.
func larger() [][]uint64 {
	return slices.Concat(lattices(), others(), wild())
}

// P3.1

// places are numbers around so many labels, and far off.
func places(n int) []int {
	out := []int{math.MinInt, math.MinInt32, -65, -64, -2, -1, n, n + 1, 63, 64, 65, 127, 128, 256, 1 << 32, math.MaxInt}
	for c := range n {
		out = append(out, c)
	}
	slices.Sort(out)
	return slices.Compact(out)
}

func TestLeqAndDown(t *testing.T) {
	hold := func(up []uint64) {
		for _, a := range places(len(up)) {
			if got, want := lattice.Down(up, a), plainDown(up, a); got != want {
				t.Errorf("Down(%b, %d) = %b, want %b", up, a, got, want)
			}
			for _, b := range places(len(up)) {
				if got, want := lattice.Leq(up, a, b), plainLeq(up, a, b); got != want {
					t.Errorf("Leq(%b, %d, %d) = %v, want %v", up, a, b, got, want)
				}
			}
		}
	}
	for _, up := range larger() {
		hold(up)
	}
	for x := range uint64(1) << 12 {
		hold(cut(x, 3, 4))
	}
}

func TestLeqKnown(t *testing.T) {
	up := []uint64{3, 2}
	if !lattice.Leq(up, 0, 0) || !lattice.Leq(up, 0, 1) || lattice.Leq(up, 1, 0) || !lattice.Leq(up, 1, 1) {
		t.Error("Leq of 3, 2 is another one")
	}
	if lattice.Leq([]uint64{all, all}, 0, 2) || lattice.Leq([]uint64{all, all}, 0, 63) || lattice.Leq([]uint64{all, all}, 0, 64) {
		t.Error("a label flows to a bit that is none")
	}
	if lattice.Leq([]uint64{0, 0}, 0, 0) {
		t.Error("a label flows to itself without its bit")
	}
	if !lattice.Leq(chain(64), 0, 63) || lattice.Leq(chain(64), 63, 0) || !lattice.Leq(chain(64), 63, 63) {
		t.Error("Leq of a chain of 64 is another one")
	}
}

func TestDownKnown(t *testing.T) {
	for _, x := range []struct {
		up   []uint64
		a    int
		want uint64
	}{
		{[]uint64{3, 2}, 1, 3}, // the chapter's example
		{[]uint64{3, 2}, 0, 1},
		{[]uint64{3, 2}, 2, 0},
		{[]uint64{3, 2}, -1, 0},
		{[]uint64{0, 0}, 0, 0},
		{nil, 0, 0},
		{chain(64), 63, all},
		{chain(64), 0, 1},
		{[]uint64{all, all}, 2, 0}, // a bit that is no label
		{[]uint64{all, all}, 1, 3},
	} {
		if got := lattice.Down(x.up, x.a); got != x.want {
			t.Errorf("Down(%b, %d) = %b, want %b", x.up, x.a, got, x.want)
		}
	}
}

func TestList(t *testing.T) {
	known := map[uint64][]int{0: nil, 1: {0}, 2: {1}, 3: {0, 1}, 0b101001: {0, 3, 5}, 1 << 63: {63}, 1<<63 | 1: {0, 63}, 1<<32 | 1<<31: {31, 32}}
	for set, want := range known {
		if got := lattice.List(set); !slices.Equal(got, want) {
			t.Errorf("List(%b) = %v, want %v", set, got, want)
		}
	}
	if got := lattice.List(all); len(got) != 64 || got[0] != 0 || got[63] != 63 {
		t.Errorf("List of all bits = %v", got)
	}
	roll := dice(2)
	for range 2000 {
		set := roll()
		var back uint64
		got := lattice.List(set)
		for i, c := range got {
			if i > 0 && got[i-1] >= c {
				t.Errorf("List(%b) = %v: not rising", set, got)
			}
			back |= 1 << c
		}
		if back != set || len(got) != bits.OnesCount64(set) {
			t.Errorf("List(%b) = %v", set, got)
		}
	}
}

// holdBounds holds that the Join and the Meet of each two numbers are the chapter's.
func holdBounds(t *testing.T, up []uint64, of []int) {
	t.Helper()
	for _, a := range of {
		for _, b := range of {
			if got, want := lattice.Join(up, a, b), plainJoin(up, a, b); got != want {
				t.Errorf("Join(%b, %d, %d) = %d, want %d", up, a, b, got, want)
			}
			if got, want := lattice.Meet(up, a, b), plainMeet(up, a, b); got != want {
				t.Errorf("Meet(%b, %d, %d) = %d, want %d", up, a, b, got, want)
			}
		}
	}
}

func TestJoinAndMeetOfFew(t *testing.T) {
	small(func(up []uint64) {
		of := make([]int, len(up)+2)
		for i := range of {
			of[i] = i - 1
		}
		holdBounds(t, up, of)
	})
}

func TestJoinAndMeetOfMany(t *testing.T) {
	for _, up := range larger() {
		n := len(up)
		if n <= 16 {
			holdBounds(t, up, places(n))
			continue
		}
		holdBounds(t, up, []int{math.MinInt, -1, 0, 1, 2, 5, 13, n / 2, n - 2, n - 1, n, 63, 64, 65, math.MaxInt})
	}
}

func TestJoinAndMeetKnown(t *testing.T) {
	for _, x := range []struct {
		up               []uint64
		a, b, join, meet int
	}{
		{[]uint64{3, 2}, 0, 1, 1, 0}, // the chapter's example
		{[]uint64{3, 2}, 1, 0, 1, 0},
		{[]uint64{3, 2}, 0, 0, 0, 0},
		{[]uint64{3, 2}, 0, 2, -1, -1},
		{[]uint64{3, 2}, -1, 1, -1, -1},
		{nil, 0, 0, -1, -1},
		{[]uint64{0}, 0, 0, -1, -1},
		{sets(2), 1, 2, 3, 0},
		{sets(6), 5, 24, 29, 0},
		{sets(6), 29, 51, 63, 17},
		{chain(64), 17, 63, 63, 17},
		{wide(64), 1, 62, 63, 0},
		{antichain(3), 0, 1, -1, -1},
		{antichain(3), 2, 2, 2, 2},
		{[]uint64{7, 2, 4}, 1, 2, -1, 0},
		{[]uint64{5, 6, 4}, 0, 1, 2, -1},
		{[]uint64{12, 12, 12, 12}, 0, 1, 2, -1},          // two bounds that flow to each other: the first
		{[]uint64{3, 3, 3, 3}, 2, 3, 0, -1},              // as low as it may be
		{[]uint64{12, 12, 12, 12}, 2, 3, 2, 2},           // bounds of themselves, and of the others
		{[]uint64{4, 4, 0}, 0, 1, -1, -1},                // a bound that doesn't flow to itself
		{[]uint64{4, 4, 4}, 0, 1, 2, -1},                 // one that does
		{[]uint64{4 | 1<<63, 4 | 1<<63, 4}, 0, 1, 2, -1}, // a bit that is no label
		{[]uint64{8, 8, 8}, 0, 1, -1, -1},                // that alone
	} {
		if got := lattice.Join(x.up, x.a, x.b); got != x.join {
			t.Errorf("Join(%b, %d, %d) = %d, want %d", x.up, x.a, x.b, got, x.join)
		}
		if got := lattice.Meet(x.up, x.a, x.b); got != x.meet {
			t.Errorf("Meet(%b, %d, %d) = %d, want %d", x.up, x.a, x.b, got, x.meet)
		}
	}
}

func TestTooManyRows(t *testing.T) {
	for _, up := range tooMany() {
		for _, a := range []int{-1, 0, 1, 63, 64, 65, len(up) - 1, len(up)} {
			if got := lattice.Down(up, a); got != 0 {
				t.Errorf("Down of %d rows and %d = %b, want 0", len(up), a, got)
			}
			for _, b := range []int{-1, 0, 1, 63, 64, 65, len(up) - 1, len(up)} {
				if lattice.Leq(up, a, b) {
					t.Errorf("Leq of %d rows, %d and %d = true", len(up), a, b)
				}
				if j, m := lattice.Join(up, a, b), lattice.Meet(up, a, b); j != -1 || m != -1 {
					t.Errorf("Join and Meet of %d rows, %d and %d = %d, %d, want -1, -1", len(up), a, b, j, m)
				}
			}
		}
		if lattice.Check(up) {
			t.Errorf("Check of %d rows = true", len(up))
		}
		if got := lattice.Close(up); got != nil {
			t.Errorf("Close of %d rows = %b, want nil", len(up), got)
		}
		if b, e := lattice.Put(up); b != nil || e != api.ErrArg {
			t.Errorf("Put of %d rows = %x, %v, want ErrArg", len(up), b, e)
		}
	}
}

// P3.2

func TestCheckOfLattices(t *testing.T) {
	for _, up := range lattices() {
		if !lattice.Check(up) {
			t.Errorf("Check(%b) = false", up)
		}
	}
}

func TestCheckOfOthers(t *testing.T) {
	for _, up := range others() {
		if lattice.Check(up) {
			t.Errorf("Check(%b) = true", up)
		}
	}
}

func TestCheckOfFew(t *testing.T) {
	counts := map[int]int{}
	small(func(up []uint64) {
		got := lattice.Check(up)
		if want := plainCheck(up); got != want {
			t.Errorf("Check(%b) = %v, want %v", up, got, want)
		}
		if got {
			counts[len(up)]++
		}
	})
	// The numbers of lattices of 1 to 4 named labels, as others tell them.
	for n, want := range []int{0, 1, 2, 6, 36} {
		if counts[n] != want {
			t.Errorf("%d lattices of %d labels, want %d", counts[n], n, want)
		}
	}
}

func TestCheckOfMany(t *testing.T) {
	for _, up := range wild() {
		if len(up) > 30 {
			continue
		}
		if got, want := lattice.Check(up), plainCheck(up); got != want {
			t.Errorf("Check(%b) = %v, want %v", up, got, want)
		}
		closed := plainClose(up)
		if got, want := lattice.Check(closed), plainCheck(closed); got != want {
			t.Errorf("Check(%b) = %v, want %v", closed, got, want)
		}
	}
}

// TestCheckOfAChangedBit turns each bit of a lattice: bits that are no label too.
func TestCheckOfAChangedBit(t *testing.T) {
	for _, up := range lattices() {
		if len(up) > 9 {
			continue
		}
		for a := range up {
			for b := range 64 {
				up[a] ^= 1 << b
				if got, want := lattice.Check(up), plainCheck(up); got != want {
					t.Errorf("Check(%b) = %v, want %v", up, got, want)
				}
				up[a] ^= 1 << b
			}
		}
	}
}

func TestCheckOf64WithAChangedBit(t *testing.T) {
	up := chain(64)
	for a := range up {
		for b := range up {
			up[a] ^= 1 << b
			// Two neighbours apart have bounds if there are labels below and above them; all else breaks the order.
			want := b == a+1 && a > 0 && b < 63
			if got := lattice.Check(up); got != want {
				t.Errorf("Check of a chain with bit %d of row %d turned = %v, want %v", b, a, got, want)
			}
			up[a] ^= 1 << b
		}
	}
}

// holdClose holds that the closure is the chapter's.
func holdClose(t *testing.T, up []uint64) {
	t.Helper()
	got := lattice.Close(up)
	if want := plainClose(up); !slices.Equal(got, want) {
		t.Errorf("Close(%b) = %b, want %b", up, got, want)
	}
	if again := lattice.Close(got); !slices.Equal(again, got) {
		t.Errorf("Close(%b) = %b: it was closed", got, again)
	}
}

func TestClose(t *testing.T) {
	small(func(up []uint64) { holdClose(t, up) })
	for _, up := range larger() {
		holdClose(t, up)
	}
}

func TestCloseOfLattices(t *testing.T) {
	for _, up := range lattices() {
		if got := lattice.Close(up); !slices.Equal(got, up) {
			t.Errorf("Close(%b) = %b: it was closed", up, got)
		}
	}
}

func TestCloseKnown(t *testing.T) {
	for _, x := range []struct{ up, want []uint64 }{
		{nil, nil},
		{[]uint64{0}, []uint64{1}},
		{[]uint64{2}, []uint64{1}}, // no label
		{[]uint64{all}, []uint64{1}},
		{[]uint64{0, 0, 0}, []uint64{1, 2, 4}},
		{[]uint64{2, 4, 0}, []uint64{7, 6, 4}},
		{[]uint64{0, 1, 2}, []uint64{1, 3, 7}},
		{[]uint64{2, 4, 1}, []uint64{7, 7, 7}}, // all round
		{[]uint64{8, 4, 0, 2}, []uint64{15, 6, 4, 14}},
		{[]uint64{4, 0, 8, 2}, []uint64{15, 2, 14, 10}},
		{[]uint64{1 << 63, 2 | 1<<2}, []uint64{1, 2}}, // no way through bits that are no labels
	} {
		if got := lattice.Close(x.up); !slices.Equal(got, x.want) {
			t.Errorf("Close(%b) = %b, want %b", x.up, got, x.want)
		}
	}
}

func TestCloseOfALongWay(t *testing.T) {
	for _, times := range []int{1, 3, 27, 37, 63} {
		up := make([]uint64, 64)
		for c := range 63 {
			up[c] = 1 << (c + 1)
		}
		if got, want := lattice.Close(renamed(up, times, 7)), renamed(chain(64), times, 7); !slices.Equal(got, want) {
			t.Errorf("the closure of a way through 64 labels, renamed by %d, is %b", times, got)
		}
	}
}

// P3.3

func TestPutKnown(t *testing.T) {
	b, e := lattice.Put([]uint64{3, 2})
	if string(b) != "\x02\x00\x00\x00\x00\x00\x00\x00\x03\x00\x00\x00\x00\x00\x00\x00\x02" || e != api.OK {
		t.Errorf("Put(3, 2) = %x, %v", b, e)
	}
	b, e = lattice.Put([]uint64{1})
	if string(b) != "\x01\x00\x00\x00\x00\x00\x00\x00\x01" || e != api.OK {
		t.Errorf("Put(1) = %x, %v", b, e)
	}
}

func TestPutAndGetOfLattices(t *testing.T) {
	for _, up := range lattices() {
		b, e := lattice.Put(up)
		if !bytes.Equal(b, plainPut(up)) || e != api.OK {
			t.Errorf("Put(%b) = %x, %v", up, b, e)
		}
		if got, e := lattice.Get(b); !slices.Equal(got, up) || e != api.OK {
			t.Errorf("Get(Put(%b)) = %b, %v", up, got, e)
		}
	}
}

func TestPutOfOthers(t *testing.T) {
	for _, up := range others() {
		if b, e := lattice.Put(up); b != nil || e != api.ErrArg {
			t.Errorf("Put(%b) = %x, %v, want ErrArg", up, b, e)
		}
	}
}

// refused holds that bytes aren't a lattice's, with an error and nothing beside it.
func refused(t *testing.T, b []byte, want api.Errno) {
	t.Helper()
	if got, e := lattice.Get(b); got != nil || e != want {
		t.Errorf("Get(%x) = %b, %v, want %v", b, got, e, want)
	}
}

func TestGetOfOthers(t *testing.T) {
	for _, up := range append(others(), tooMany()[:7]...) {
		refused(t, plainPut(up), api.ErrForm)
		refused(t, append(plainPut(up), 0), api.ErrForm)
	}
}

func TestGetOfFew(t *testing.T) {
	small(func(up []uint64) {
		got, e := lattice.Get(plainPut(up))
		if plainCheck(up) != (e == api.OK) || e == api.OK && !slices.Equal(got, up) || e != api.OK && (got != nil || e != api.ErrForm) {
			t.Errorf("Get of the bytes of %b = %b, %v", up, got, e)
		}
	})
}

func TestGetOfOtherLengths(t *testing.T) {
	for _, up := range append(lattices(), others()...) {
		b := plainPut(up)
		for size := range b {
			refused(t, b[:size], api.ErrShort)
		}
		if lattice.Check(up) {
			refused(t, append(bytes.Clone(b), 0), api.ErrForm)
			refused(t, append(bytes.Clone(b), b...), api.ErrForm)
			refused(t, append(bytes.Clone(b), make([]byte, 8)...), api.ErrForm)
		}
	}
	refused(t, nil, api.ErrShort)
	refused(t, []byte{0}, api.ErrForm)
	refused(t, []byte{255}, api.ErrShort)
	refused(t, []byte{0, 0}, api.ErrForm)
	for n := range 256 { // no label flows to itself
		b := make([]byte, 1+8*n)
		b[0] = byte(n)
		refused(t, b, api.ErrForm)
		refused(t, b[:8*n], api.ErrShort)
	}
}

// P3.4

func TestBoundsInALattice(t *testing.T) {
	for _, up := range lattices() {
		for a := range up {
			for b := range up {
				j, m := lattice.Join(up, a, b), lattice.Meet(up, a, b)
				if !lattice.Leq(up, a, j) || !lattice.Leq(up, b, j) || !lattice.Leq(up, m, a) || !lattice.Leq(up, m, b) {
					t.Errorf("in %b the Join and the Meet of %d and %d are %d and %d: no bounds", up, a, b, j, m)
				}
				if lattice.Join(up, b, a) != j || lattice.Meet(up, b, a) != m {
					t.Errorf("in %b the Join or the Meet of %d and %d hangs on their order", up, a, b)
				}
				leq := lattice.Leq(up, a, b)
				if leq != (j == b) || leq != (m == a) {
					t.Errorf("in %b Leq of %d and %d is %v, their Join %d and their Meet %d", up, a, b, leq, j, m)
				}
			}
		}
	}
}

// Rule 3: arguments are neither modified nor retained, and results are in new memory.

func TestArgumentsAreLeft(t *testing.T) {
	for _, rows := range [][]uint64{sets(3), {2, 4 | 1<<63, 0, all}, {}} {
		whole := append(slices.Clone(rows), 77, 78, 79)
		want := slices.Clone(whole)
		up := whole[:len(rows)]
		lattice.Check(up)
		lattice.Leq(up, 0, 1)
		lattice.Down(up, 1)
		lattice.Join(up, 0, 1)
		lattice.Meet(up, 0, 1)
		closed := lattice.Close(up)
		clear(closed)
		_ = append(closed, 1, 2, 3)
		b, _ := lattice.Put(up)
		clear(b)
		if !slices.Equal(whole, want) {
			t.Errorf("the argument became %b, want %b", whole, want)
		}
	}
}

func TestBytesAreLeft(t *testing.T) {
	const text = "\x02\x00\x00\x00\x00\x00\x00\x00\x03\x00\x00\x00\x00\x00\x00\x00\x02spare"
	whole := []byte(text)
	up, e := lattice.Get(whole[:17])
	if e != api.OK {
		t.Fatal(e)
	}
	clear(up)
	_ = append(up, 1, 2, 3)
	if string(whole) != text {
		t.Errorf("the argument became %q, want %q", whole, text)
	}
}

func TestResultsAreNewMemory(t *testing.T) {
	up := []uint64{3, 2}
	b, _ := lattice.Put(up)
	closed := lattice.Close(up)
	clear(up)
	if !bytes.Equal(b, plainPut([]uint64{3, 2})) || !slices.Equal(closed, []uint64{3, 2}) {
		t.Errorf("Put and Close became %x and %b when their argument was changed", b, closed)
	}
	got, _ := lattice.Get(b)
	clear(b)
	if !slices.Equal(got, []uint64{3, 2}) {
		t.Errorf("Get became %b when its argument was changed", got)
	}
	clear(lattice.List(7))
	if got := lattice.List(7); !slices.Equal(got, []int{0, 1, 2}) {
		t.Errorf("List(7) = %v after an earlier result was changed", got)
	}
}
