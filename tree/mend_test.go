package tree_test

import (
	"math"
	"slices"
	"strings"
	"testing"

	"jalousie/tree"
)

// letters is so many keys of one letter, from one on.
func letters(from rune, many int) []string {
	var out []string
	for i := range many {
		out = append(out, string(from+rune(i)))
	}
	return out
}

// wide is a key of 16 bytes that begins with a letter.
func wide(letter string) string { return letter + strings.Repeat("-", 15) }

// wides is so many of them, from a letter on.
func wides(from rune, many int) []string {
	var out []string
	for _, letter := range letters(from, many) {
		out = append(out, wide(letter))
	}
	return out
}

// tiny is a leaf of one entry, at a page.
func tiny(page int, key string) tree.Node { return onPage(page, leaf(key, key)) }

// above is a branch of tiny leaves at pages from one on, with such keys behind the first one's.
func above(page int, first string, keys ...string) tree.Node {
	out := branch(keys, tiny(page, first))
	for i, key := range keys {
		out.Kids = append(out.Kids, tiny(page+1+i, key))
	}
	return out
}

// stored is a leaf at a page, with a long value in pages, of more than 30 and less than 122 bytes of cells.
func stored(page int, key string) tree.Node {
	n := leaf(key, text(200), key+"1", text(16), key+"2", text(16))
	n.Vals[0].Pages = []int{page + 100, page + 101}
	return onPage(page, n)
}

// P15.2: a child that is split.

func TestMendSplitsLeaf(t *testing.T) {
	great := func(from rune) tree.Node { return onPage(9, sized(20, letters(from, 7)...)) } // 140: 60 and 80
	first, second := sized(20, "a", "b", "c"), sized(20, "d", "e", "f", "g")
	p, s := stored(3, "p"), stored(4, "s")
	// The first one of three, of two, and the only one.
	is(t, mended(t, onPage(5, branch(list("p", "s"), great('a'), p, s)), 0), branch(list("d", "p", "s"), first, second, p, s))
	is(t, mended(t, onPage(5, branch(list("p"), great('a'), p)), 0), branch(list("d", "p"), first, second, p))
	is(t, mended(t, onPage(5, branch(nil, great('a'))), 0), branch(list("d"), first, second))
	// One in the middle, and the last one. The first part keeps the key that the child has in the branch, which is none of its own.
	first, second = sized(20, "q", "r", "s"), sized(20, "t", "u", "v", "w")
	is(t, mended(t, onPage(5, branch(list("px", "x"), p, great('q'), s)), 1), branch(list("px", "t", "x"), p, first, second, s))
	is(t, mended(t, onPage(5, branch(list("px"), p, great('q'))), 1), branch(list("px", "t"), p, first, second))
}

func TestMendSplitsBranch(t *testing.T) {
	great := onPage(9, above(20, "a", wides('b', 6)...)) // 4 and six of 20: 64 and 60
	first, second := above(20, "a", wides('b', 3)...), above(24, wide("e"), wides('f', 2)...)
	p := onPage(3, above(40, "p", "q", "r"))
	is(t, mended(t, onPage(5, branch(list("p"), great, p)), 0), branch(list(wide("e"), "p"), first, second, p))
	is(t, mended(t, onPage(5, branch(nil, great)), 0), branch(list(wide("e")), first, second))
	zero := onPage(2, above(60, "0", "1", "2"))
	is(t, mended(t, onPage(5, branch(list("9"), zero, great)), 1), branch(list("9", wide("e")), zero, first, second))
	is(t, mended(t, onPage(5, branch(list("9", "p"), zero, great, p)), 1), branch(list("9", wide("e"), "p"), zero, first, second, p))
}

// TestMendKeepsPagesOfValues asks for the values of a child that is new: they stay where they are.
func TestMendKeepsPagesOfValues(t *testing.T) {
	n := tree.Node{Leaf: true, Page: 9}
	for i, key := range wides('a', 6) { // each 23
		n.Keys = append(n.Keys, key)
		n.Vals = append(n.Vals, tree.Val{Data: text(100 + i), Pages: []int{50 + i}})
	}
	want := branch(list(wide("d")), tree.Node{Leaf: true, Keys: n.Keys[:3], Vals: n.Vals[:3]}, tree.Node{Leaf: true, Keys: n.Keys[3:], Vals: n.Vals[3:]})
	is(t, mended(t, branch(nil, n), 0), want)
	few := tree.Node{Leaf: true, Page: 8, Keys: n.Keys[:1], Vals: n.Vals[:1]}
	next := tree.Node{Leaf: true, Page: 9, Keys: n.Keys[1:3], Vals: n.Vals[1:3]}
	whole := tree.Node{Leaf: true, Keys: n.Keys[:3], Vals: n.Vals[:3]}
	is(t, mended(t, branch(list("b"), few, next), 0), branch(nil, whole))
	is(t, mended(t, branch(list("b"), few, next), 1), branch(list("b"), few, next))
}

// P15.2: a child that is low.

func TestMendMergesLeaf(t *testing.T) {
	few := func(key string) tree.Node { return onPage(9, leaf(key, text(16))) } // 20
	p, s := stored(3, "p"), stored(4, "s")
	join := func(a, b tree.Node) tree.Node {
		return tree.Node{Leaf: true, Keys: slices.Concat(a.Keys, b.Keys), Vals: slices.Concat(a.Vals, b.Vals)}
	}
	// With the next one: as the first one, as one in the middle, and as the first one of two.
	is(t, mended(t, onPage(5, branch(list("p", "s"), few("a"), p, s)), 0), branch(list("s"), join(few("a"), p), s))
	is(t, mended(t, onPage(5, branch(list("q", "s"), p, few("r"), s)), 1), branch(list("q"), p, join(few("r"), s)))
	is(t, mended(t, onPage(5, branch(list("p"), few("a"), p)), 0), branch(nil, join(few("a"), p)))
	// The last one with the one ahead: of three, and of two.
	is(t, mended(t, onPage(5, branch(list("rr", "u"), p, s, few("v"))), 2), branch(list("rr"), p, join(s, few("v"))))
	is(t, mended(t, onPage(5, branch(list("u"), p, few("v"))), 1), branch(nil, join(p, few("v"))))
	// Both are low, or are without keys.
	is(t, mended(t, onPage(5, branch(list("b"), few("a"), few("b"))), 1), branch(nil, join(few("a"), few("b"))))
	is(t, mended(t, onPage(5, branch(list("b"), onPage(6, tree.Empty()), few("b"))), 0), branch(nil, leaf("b", text(16))))
	is(t, mended(t, onPage(5, branch(list("b"), few("a"), onPage(6, tree.Empty()))), 1), branch(nil, leaf("a", text(16))))
	is(t, mended(t, onPage(5, branch(list("b", "c"), onPage(6, tree.Empty()), onPage(7, tree.Empty()), p)), 0), branch(list("c"), tree.Empty(), p))
}

func TestMendMergesBranch(t *testing.T) {
	few := onPage(9, above(20, "a", "c", "e")) // 14
	next := onPage(8, above(30, "n", wide("p"), wide("r")))
	last := onPage(7, above(40, "u", "w", wide("x"), wide("y")))
	// The first key of the second one is the one that it has in the branch.
	is(t, mended(t, onPage(5, branch(list("m", "t"), few, next, last)), 0),
		branch(list("t"), branch(list("c", "e", "m", wide("p"), wide("r")), slices.Concat(few.Kids, next.Kids)...), last))
	is(t, mended(t, onPage(5, branch(list("m"), few, next)), 0),
		branch(nil, branch(list("c", "e", "m", wide("p"), wide("r")), slices.Concat(few.Kids, next.Kids)...)))
	few = onPage(9, above(20, "sa", "sc"))
	is(t, mended(t, onPage(5, branch(list("s", "t"), next, few, last)), 1),
		branch(list("s"), next, branch(list("sc", "t", "w", wide("x"), wide("y")), slices.Concat(few.Kids, last.Kids)...)))
	few = onPage(9, above(20, "za", "zc"))
	is(t, mended(t, onPage(5, branch(list("t", "z0"), next, last, few)), 2),
		branch(list("t"), next, branch(list("w", wide("x"), wide("y"), "z0", "zc"), slices.Concat(last.Kids, few.Kids)...)))
	// Of one kid each.
	is(t, mended(t, onPage(5, branch(list("m"), onPage(6, branch(nil, tiny(7, "a"))), onPage(8, branch(nil, tiny(9, "n"))))), 1),
		branch(nil, branch(list("m"), tiny(7, "a"), tiny(9, "n"))))
}

// TestMendMergesAndSplits asks for two that don't go into one page.
func TestMendMergesAndSplits(t *testing.T) {
	few, full := onPage(9, leaf("a", text(16))), onPage(8, sized(20, letters('b', 6)...)) // 20 and 120
	p := stored(3, "p")
	is(t, mended(t, onPage(5, branch(list("b", "p"), few, full, p)), 0),
		branch(list("d", "p"), leaf("a", text(16), "b", text(16), "c", text(16)), sized(20, "d", "e", "f", "g"), p))
	few = onPage(9, leaf("x", text(16)))
	is(t, mended(t, onPage(5, branch(list("r", "w"), p, onPage(8, sized(20, letters('r', 6)...)), few)), 2),
		branch(list("r", "u"), p, sized(20, "r", "s", "t"), sized(20, "u", "v", "w", "x")))
	// One that is too great by far is split only one time.
	is(t, mended(t, branch(list("b"), leaf("a", "1"), onPage(8, sized(20, letters('b', 20)...))), 0),
		branch(list("l"), leafOf(leaf("a", "1"), sized(20, letters('b', 10)...)), sized(20, letters('l', 10)...))) // 405: 205 and 200
}

// leafOf is the entries of two leaves in one.
func leafOf(a, b tree.Node) tree.Node {
	return tree.Node{Leaf: true, Keys: slices.Concat(a.Keys, b.Keys), Vals: slices.Concat(a.Vals, b.Vals)}
}

func TestMendMergesAndSplitsBranch(t *testing.T) {
	few := onPage(9, above(20, "a", wide("b")))         // 24
	full := onPage(8, above(30, "d", wides('e', 5)...)) // 104; with a key of 11 bytes in place of the first one 115
	p := onPage(3, above(40, "p", "q", "r"))
	n := onPage(5, branch(list("c----------", "p"), few, full, p)) // 139: 79 and 60
	is(t, mended(t, n, 0), branch(list(wide("g"), "p"),
		branch(slices.Concat(list(wide("b"), "c----------"), wides('e', 2)), slices.Concat(few.Kids, full.Kids[:3])...), above(33, wide("g"), wides('h', 2)...), p))
	// The last one, with the one ahead.
	full, few = onPage(8, above(30, "a", wides('b', 5)...)), onPage(9, above(20, wide("g"), "h", "i")) // 104 and 14; with a key of 16 bytes 30
	n = onPage(5, branch(list("0", wide("g")), p, full, few))                                          // 134: 64 and 70
	is(t, mended(t, n, 2), branch(list("0", wide("e")), p, above(30, "a", wides('b', 3)...),
		branch(slices.Concat(wides('f', 2), list("h", "i")), slices.Concat(full.Kids[4:], few.Kids)...)))
	// With a key of one byte more in place of the first one, the two are too great.
	for _, c := range []struct{ size, kids int }{{15, 1}, {16, 2}} {
		full, few = onPage(8, above(30, "a", slices.Concat(wides('b', 4), list("f"+text(9)))...)), onPage(9, above(20, "gz", "h")) // 98 and 9
		n = branch(list("g"+text(c.size-1)), full, few)
		got := mended(t, n, 1)
		is(t, got, plainMend(n, 1))
		if len(got.Kids) != c.kids {
			t.Fatalf("with a key of %d bytes: %s", c.size, show(got))
		}
	}
}

// TestMendSplitsAtTheSeam asks for two that are parted again just where they were apart: the key is in the branch as it was, and the second one's first key is empty again.
func TestMendSplitsAtTheSeam(t *testing.T) {
	first, second := onPage(8, above(30, "a", wides('b', 3)...)), onPage(9, above(40, wide("f"), "g")) // 64, and 9; with the seam's key of 60 bytes 69
	n := onPage(5, branch(list(text(60)), first, second))
	is(t, mended(t, n, 1), branch(list(text(60)), twinAt(0, first), twinAt(0, second)))
	few, full := onPage(8, leaf("a", text(16), "aa", "5")), onPage(9, leaf("b", text(16), text(100), "")) // 26, and 20 and 103
	n = onPage(5, branch(list("b"), few, full))
	is(t, mended(t, n, 0), branch(list(text(100)), leafOf(few, leaf("b", text(16))), leaf(text(100), "")))
	full = onPage(9, leaf(text(100), "", "y", text(16))) // 103 and 20
	n = onPage(5, branch(list("b"), few, full))
	is(t, mended(t, n, 0), branch(list(text(100)), twinAt(0, few), twinAt(0, full)))
}

// twinAt is the same node at another page.
func twinAt(page int, n tree.Node) tree.Node { return onPage(page, twin(n)) }

// P15.2: a child that is neither.

func TestMendLeavesOthers(t *testing.T) {
	few, p, s := onPage(9, leaf("a", text(16))), stored(3, "p"), stored(4, "s")
	b := onPage(6, above(20, "a", wide("c"), wide("e")))
	for _, page := range []int{0, 5} {
		for _, n := range []tree.Node{
			branch(nil, few), // the only one, low
			branch(nil, onPage(9, tree.Empty())),
			branch(nil, onPage(9, above(20, "a", "c"))),
			branch(nil, p),
			branch(nil, b),
			branch(nil, leaf(text(500), "")),                                                      // too great, of one cell
			branch(list("b"), leaf("a", text(16), "aa", "55555"), few),                            // 30; the next one is low
			branch(list("p", "s"), stored(2, "a"), p, few),                                        // the last one is low
			branch(list("b"), stored(2, "a"), sized(20, letters('b', 7)...)),                      // the next one is too great
			branch(list("b"), b, onPage(3, above(40, wide("b"), wides('c', 7)...))),               // so it is
			branch(list("p", "s"), b, onPage(7, above(30, "p", "q")), above(40, "s", "t")),        // the others are low
			branch(list("c"), above(20, "a", "b", wide("ba")+text(1)), onPage(7, above(30, "c"))), // 30, with a key of 17 bytes
		} {
			n.Page = page
			is(t, mended(t, n, 0), n)
		}
		n := onPage(page, branch(list("p", "s"), few, p, s))
		is(t, mended(t, n, 1), n)
		is(t, mended(t, n, 2), n)
	}
}

// parts is a sum in as few numbers as may be, all about as great, each from least to most; false: it can't be.
func parts(sum, least, most int) ([]int, bool) {
	if sum < 0 {
		return nil, false
	}
	many := (sum + most - 1) / most
	var out []int
	for i := range many {
		out = append(out, (sum+i)/many)
	}
	return out, many == 0 || out[0] >= least
}

// summing is a node of cells that begin with a letter, whose sizes have a sum; false: there is none.
func summing(isLeaf bool, letter string, sum int) (tree.Node, bool) {
	if isLeaf {
		n := tree.Empty()
		sizes, ok := parts(sum, 5, 21)
		if !ok {
			return n, false
		}
		for i, size := range sizes {
			n = leafOf(n, sized(size, letter+letters('a', i+1)[i]))
		}
		return n, ok
	}
	n := branch(nil, tiny(0, letter))
	sizes, ok := parts(sum-4, 6, 20)
	if !ok {
		return n, false
	}
	for i, size := range sizes {
		n.Keys = append(n.Keys, letter+letters('a', i+1)[i]+text(size-6))
		n.Kids = append(n.Kids, tiny(0, n.Keys[i+1]))
	}
	return n, true
}

// sumOf is the sizes of a node's cells together.
func sumOf(n tree.Node) int { return plainSum(n.Leaf, cellsOf(n)) }

// TestMendAtEdges asks for children of each size up to 160, beside others at the edges of what a page needs and has.
func TestMendAtEdges(t *testing.T) {
	asked := 0
	for _, isLeaf := range []bool{true, false} {
		for sum := range 160 {
			for _, beside := range []int{0, 4, 29, 30, 31, 60, 91, 92, 93, 94, 121, 122} {
				kid, ok := summing(isLeaf, "b", sum)
				first, okFirst := summing(isLeaf, "a", beside)
				last, okLast := summing(isLeaf, "c", beside)
				if ok && okFirst && okLast {
					asked++
					mendAtEdge(t, kid, first, last)
				}
			}
		}
	}
	if asked < 3000 {
		t.Fatalf("only %d", asked)
	}
}

// mendAtEdge asks for a child as the first one of two, as the last one of two, and between two.
func mendAtEdge(t *testing.T, kid, first, last tree.Node) {
	t.Helper()
	for _, c := range []struct {
		n       tree.Node
		k, with int // with is what the child is merged with
	}{
		{branch(list("c"), kid, last), 0, 1},
		{branch(list("b"), first, kid), 1, 0},
		{branch(list("b", "c"), first, kid, last), 1, 2},
	} {
		n := laid(c.n)
		many := len(n.Kids)
		want := many
		both := sumOf(kid) + sumOf(n.Kids[c.with])
		if !kid.Leaf {
			both++ // the key of one letter
		}
		switch {
		case sumOf(kid) > 122:
			want = many + 1
		case sumOf(kid) < 30 && both <= 122:
			want = many - 1
		}
		got := mended(t, n, c.k)
		is(t, got, plainMend(n, c.k))
		if len(got.Kids) != want {
			t.Fatalf("Mend of kid %d makes %d kids, want %d, of%s", c.k, len(got.Kids), want, show(n))
		}
		// A branch that is new is at no page, and one that isn't is at its own.
		if isNew := sumOf(kid) > 122 || sumOf(kid) < 30; isNew != (got.Page == 0) || !isNew && !alike(got, n) {
			t.Fatalf("Mend of kid %d tells%s\nof%s", c.k, show(got), show(n))
		}
	}
}

// TestMendOfDrawn asks for branches of leaves and of branches of all sizes, each child in turn.
func TestMendOfDrawn(t *testing.T) {
	draw := dice(15)
	for range 1500 {
		isLeaf, many := draw(2) == 0, 1+draw(5)
		n := tree.Node{}
		for i := range many {
			letter := letters('a', many)[i]
			kid, ok := summing(isLeaf, letter, []int{draw(30), 15 + draw(30), 30 + draw(93), 100 + draw(60)}[draw(4)])
			for !ok {
				kid, ok = summing(isLeaf, letter, draw(160))
			}
			key := letter + text(draw(16))
			if i == 0 {
				key = ""
			}
			n.Keys, n.Kids = append(n.Keys, key), append(n.Kids, kid)
		}
		if draw(2) == 0 {
			n = laid(n)
		}
		for k := range many {
			mendAsChapter(t, n, k)
		}
	}
}

// TestMendKeepsOthers asks what becomes of the children that have no part in it, and of their keys.
func TestMendKeepsOthers(t *testing.T) {
	for _, c := range []struct{ sum, cut, more int }{{20, 2, 1}, {140, 1, 2}} {
		kid, _ := summing(true, "b", c.sum)
		n := laid(branch(list("b", "c", "d", "e"), stored(3, "a"), kid, stored(4, "c"), stored(5, "d"), stored(6, "e")))
		got := mended(t, n, 1)
		if got.Page != 0 || len(got.Keys) != 5-c.cut+c.more || len(got.Kids) != len(got.Keys) {
			t.Fatalf("got%s", show(got))
		}
		behind := 1 + c.more
		if !slices.Equal(got.Keys[:2], n.Keys[:2]) || !slices.Equal(got.Keys[behind:], n.Keys[1+c.cut:]) {
			t.Fatalf("the keys are %q, of %q", got.Keys, n.Keys)
		}
		is(t, got.Kids[0], n.Kids[0])
		for i, kid := range got.Kids[behind:] {
			is(t, kid, n.Kids[1+c.cut+i])
		}
		for _, kid := range got.Kids[1:behind] {
			if kid.Page != 0 {
				t.Fatalf("a new child is at page %d", kid.Page)
			}
		}
	}
}

// TestMendOfMixedKids asks for a leaf that is low beside a branch: there is no node that has the cells of both.
func TestMendOfMixedKids(t *testing.T) {
	few := leaf("a", "1")
	n := onPage(5, branch(list("m"), few, above(20, "m", "n")))
	is(t, mended(t, n, 0), n)
	is(t, mended(t, n, 1), n)
	n = onPage(5, branch(list("m"), above(20, "a", "b"), leaf("m", "1")))
	is(t, mended(t, n, 0), n)
	is(t, mended(t, n, 1), n)
	got := put(t, n, "x", "2")
	for _, c := range []struct{ key, value string }{{"a", "a"}, {"b", "b"}, {"m", "1"}, {"x", "2"}} {
		hasKey(t, got, c.key, c.value)
	}
}

// TestMendOfNoChild asks for children that there aren't: the node comes back as it is.
func TestMendOfNoChild(t *testing.T) {
	few := leaf("a", "1")
	for _, n := range []tree.Node{branch(list("p"), few, stored(3, "p")), branch(nil, few), onPage(5, branch(list("p"), few, few))} {
		for _, k := range []int{-1, -2, len(n.Kids), len(n.Kids) + 1, math.MinInt, math.MaxInt} {
			is(t, mended(t, n, k), n)
		}
	}
	for _, n := range []tree.Node{{}, tree.Empty(), leaf("a", "1"), onPage(4, sized(20, letters('a', 9)...))} {
		for _, k := range []int{-1, 0, 1} {
			is(t, mended(t, n, k), n)
		}
	}
}

// P15.3.

func TestTopOfOneChild(t *testing.T) {
	for _, n := range []tree.Node{
		leaf("k", "v"),
		stored(7, "k"),
		tree.Empty(),
		onPage(6, tree.Empty()),
		above(20, "a", "c"),
		onPage(8, above(20, "a", wide("c"), "d")),
		tree.Node{},
	} {
		is(t, topped(t, n), n) // neither
		for chain, down := branch(nil, n), 0; down < 5; chain, down = onPage(down, branch(nil, chain)), down+1 {
			is(t, topped(t, chain), n)
		}
	}
	// A child that has one child, of a branch that has two, stays.
	n := onPage(5, branch(list("m"), branch(nil, leaf("a", "1")), branch(nil, leaf("m", "2"))))
	is(t, topped(t, n), n)
	// The only child's key plays no part.
	is(t, topped(t, tree.Node{Keys: list("x"), Kids: []tree.Node{stored(7, "k")}}), stored(7, "k"))
}

func TestTopOfGreatRoot(t *testing.T) {
	is(t, topped(t, onPage(9, sized(20, letters('a', 7)...))), branch(list("d"), sized(20, "a", "b", "c"), sized(20, "d", "e", "f", "g")))
	is(t, topped(t, onPage(9, above(20, "a", wides('b', 6)...))), branch(list(wide("e")), above(20, "a", wides('b', 3)...), above(24, wide("e"), wides('f', 2)...)))
	// Below branches of one child too.
	is(t, topped(t, branch(nil, branch(nil, onPage(9, sized(20, letters('a', 7)...))))), branch(list("d"), sized(20, "a", "b", "c"), sized(20, "d", "e", "f", "g")))
	// Of one cell it isn't too great, and far too great it's parted but once.
	is(t, topped(t, onPage(4, leaf(text(200), "v"))), onPage(4, leaf(text(200), "v")))
	is(t, topped(t, sized(20, letters('a', 20)...)), branch(list("k"), sized(20, letters('a', 10)...), sized(20, letters('k', 10)...)))
}

// TestTopAtEdges asks for roots of each size.
func TestTopAtEdges(t *testing.T) {
	for _, isLeaf := range []bool{true, false} {
		for sum := range 200 {
			if n, ok := summing(isLeaf, "a", sum); ok {
				for _, n := range []tree.Node{n, laid(n), branch(nil, laid(n))} {
					topAsChapter(t, n)
				}
				if got := tree.Top(laid(n)); sum > 122 != (got.Page == 0 && len(got.Kids) == 2) && len(n.Kids) != 1 {
					t.Fatalf("%d: Top = %s", sum, show(got))
				}
			}
		}
	}
}

// Nodes that may not be.

// TestOfAnything asks for nodes whose rows don't fit one another: no call panics, changes what it is handed, or keeps it.
func TestOfAnything(t *testing.T) {
	draw := dice(150)
	key := func() string { return []string{"", "a", "b", "m", wide("c"), wide("x"), text(50)}[draw(7)] }
	var drawn func(depth int) tree.Node
	drawn = func(depth int) tree.Node {
		n := tree.Node{Page: draw(2), Leaf: draw(3) == 0 || depth == 0}
		for range draw(9) {
			n.Keys = append(n.Keys, key())
		}
		for i := 0; i < len(n.Keys)+draw(3)-1 && (n.Leaf || draw(9) == 0); i++ {
			n.Vals = append(n.Vals, tree.Val{Data: text(draw(40)), Pages: make([]int, draw(2))})
		}
		for i := 0; i < len(n.Keys)+draw(3)-1 && depth > 0 && (!n.Leaf || draw(9) == 0); i++ {
			n.Kids = append(n.Kids, drawn(depth-1))
		}
		return n
	}
	for range 1000 {
		n := drawn(draw(4))
		k := key()
		asked(t, "Sizes", n, slices.Equal, tree.Sizes)
		asked(t, "Way", n, equal, func(n tree.Node) int { return tree.Way(n, k) })
		asked(t, "Check", n, equal, tree.Check)
		asked(t, "Find", n, equal, func(n tree.Node) found {
			value, ok := tree.Find(n, k)
			if !ok && value != "" {
				t.Fatalf("Find of %q = %q, false", k, value)
			}
			return found{value, ok}
		})
		mended(t, n, draw(12)-2)
		topped(t, n)
		put(t, n, k, text(draw(40)))
	}
}

// TestOfDeep asks in a tree with as many levels as the document speaks of.
func TestOfDeep(t *testing.T) {
	n := leaf("b", "1")
	for range 1<<16 - 2 {
		n = branch(nil, n)
	}
	n = branch(list("m"), n, leaf("m", "2"))
	for _, c := range []struct{ key, value string }{{"b", "1"}, {"m", "2"}} {
		if value, ok := tree.Find(n, c.key); !ok || value != c.value {
			t.Fatalf("Find of %q = %q, %v", c.key, value, ok)
		}
	}
	if tree.Check(n) || tree.Check(n.Kids[0]) {
		t.Fatal("Check accepts it")
	}
	// None of these is shown: it is too great for that.
	for name, ok := range map[string]bool{
		"Top":  alike(tree.Top(n.Kids[0]), leaf("b", "1")),
		"Put":  alike(tree.Put(n.Kids[0], "c", "3"), leaf("b", "1", "c", "3")),
		"Mend": alike(tree.Mend(n, 0), n),
	} {
		if !ok {
			t.Fatalf("%s tells another tree", name)
		}
	}
	if value, ok := tree.Find(tree.Put(n, "n", "4"), "n"); !ok || value != "4" {
		t.Fatalf("Find = %q, %v", value, ok)
	}
}
