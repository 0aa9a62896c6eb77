package prune_test

import (
	"maps"
	"slices"
	"testing"

	"jalousie/prune"
	"jalousie/tree"
)

// P16.1: Delete of a key that isn't there.

func TestDeleteInEmpty(t *testing.T) {
	hasNone(t, tree.Empty(), "", "\x00", "a", text(16), text(300))
	hasNone(t, onPage(7, tree.Empty()), "", "a")
	hasNone(t, tree.Node{Leaf: true, Keys: []string{}, Vals: []tree.Val{}, Kids: []tree.Node{}}, "", "a")
}

// TestDeleteOfNoKey asks for keys ahead of all, between two and behind all: the tree comes back with each page of it.
func TestDeleteOfNoKey(t *testing.T) {
	hasNone(t, leaf("k", "v"), "", "j", "k\x00", "l", "K", "kk")
	n := onPage(9, leaf("b", "1", "d", text(30), "f", "3"))
	n.Vals[1].Pages = []int{5, 6}
	hasNone(t, n, "", "\x00", "a", "b\x00", "bb", "c", "d\x00", "dd", "e", "f\x00", "g", "\xff", "B", "D", text(17), "1", "3")
	far := leaf("c1", text(400), "c2", text(17), "c3", text(16))
	for _, n := range []tree.Node{
		branch(list("c", "e"), forty("a"), far, forty("e")),
		laid(branch(list("c", "e"), forty("a"), far, forty("e"))),
		onPage(3, branch(list("c", "e"), onPage(5, forty("a")), far, forty("e"))),
	} {
		hasNone(t, n, "", "\x00", "a", "a0", "a11", "b", "c", "c0", "c11", "c4", "d", "e", "e0", "e3", "z", "\xff", text(16), text(200))
	}
	hasNone(t, laid(threeLevels()), "", "a", "a0", "a11", "a3", "b", "c"+text(9), "d0", "f"+text(9), "g3", "h", "i", "j0", "l"+text(9), "p", "q", "q0", "w3", "x", "\xff")
}

// TestDeleteBesideEach asks beside each key of trees of one level to four.
func TestDeleteBesideEach(t *testing.T) {
	for _, g := range grownTrees(t) {
		n := laid(g.n)
		hasNone(t, n, "", "\x00", "\xff")
		for _, key := range keysOf(n) {
			for _, beside := range []string{key + "\x00", key[:len(key)-1], key[:len(key)-1] + "\xff"} {
				if _, ok := g.entries[beside]; ok {
					continue
				}
				got, ok := prune.Delete(n, beside)
				if ok {
					t.Fatalf("Delete of %q = true, of%s", beside, show(n))
				}
				is(t, got, n)
			}
		}
	}
}

// TestDeleteOfWhatFindMisses asks for keys that are in leaves on which nobody comes by Way.
func TestDeleteOfWhatFindMisses(t *testing.T) {
	hasNone(t, laid(branch(list("d"), leaf("a", "1", "x", "2"), leaf("b", "3", "d", "4"))), "x", "b")
	hasNone(t, laid(branch(list("d"), leaf("a", "1"), leaf("", "0", "d", "4"))), "")
}

// P16.1: Delete in a root that is a leaf.

func TestDeleteInLeaf(t *testing.T) {
	n := onPage(9, leaf("b", "1", "d", text(30), "f", "3", "h", text(400)))
	n.Vals[1].Pages, n.Vals[3].Pages = []int{5, 6}, []int{8, 7, 4, 3}
	less := func(i int) tree.Node { // n without an entry, the others where they are
		return tree.Node{Leaf: true, Keys: slices.Delete(slices.Clone(n.Keys), i, i+1), Vals: slices.Delete(slices.Clone(n.Vals), i, i+1)}
	}
	for i, key := range list("b", "d", "f", "h") {
		gone(t, n, key, less(i))
	}
	gone(t, leaf("a", "1", "b", "2"), "a", leaf("b", "2"))
	gone(t, leaf("a", "1", "b", "2"), "b", leaf("a", "1"))
	gone(t, leaf("", "0", "b", "2"), "", leaf("b", "2"))
	gone(t, onPage(2, sized(20, letters('a', 6)...)), "a", sized(20, letters('b', 5)...))
	gone(t, onPage(2, sized(20, letters('a', 6)...)), "f", sized(20, letters('a', 5)...))
}

func TestDeleteOfOnlyKey(t *testing.T) {
	gone(t, leaf("k", "v"), "k", tree.Empty())
	gone(t, onPage(9, leaf("k", "v")), "k", tree.Empty())
	gone(t, leaf("", ""), "", tree.Empty())
	n := onPage(9, leaf(text(16), text(400)))
	n.Vals[0].Pages = []int{2, 3, 4, 5}
	gone(t, n, text(16), tree.Empty())
}

// P16.1: Delete in two levels.

// rich is a leaf at a page, with long values in pages, of more than 60 and less than 122 bytes of cells.
func rich(page int, letter string) tree.Node {
	n := leaf(letter+"1", text(200), letter+"2", text(16), letter+"3", text(16), letter+"4", text(17))
	n.Vals[0].Pages = []int{page + 100, page + 101}
	n.Vals[3].Pages = []int{page + 102}
	return onPage(page, n)
}

// lessKey is a leaf without one of its keys, at no page.
func lessKey(n tree.Node, key string) tree.Node {
	return fresh(true, slices.DeleteFunc(cellsOf(n), func(c cell) bool { return c.key == key }))
}

// joined is the entries of leaves in one, at no page.
func joined(l ...tree.Node) tree.Node {
	var cells []cell
	for _, n := range l {
		cells = append(cells, cellsOf(n)...)
	}
	return fresh(true, cells)
}

// TestDeleteLeavesEnough asks for keys of each leaf: the others stay where they are, and all keys of the root stay, that of a leaf's deleted first key too.
func TestDeleteLeavesEnough(t *testing.T) {
	a, b, c := rich(4, "a"), rich(5, "b"), rich(6, "c")
	n := onPage(3, branch(list("b1", "c"), a, b, c))
	accepted(t, n)
	for _, key := range a.Keys {
		gone(t, n, key, branch(list("b1", "c"), lessKey(a, key), b, c))
	}
	for _, key := range b.Keys {
		gone(t, n, key, branch(list("b1", "c"), a, lessKey(b, key), c))
	}
	for _, key := range c.Keys {
		gone(t, n, key, branch(list("b1", "c"), a, b, lessKey(c, key)))
	}
}

func TestDeleteMergesLeaf(t *testing.T) {
	a, b, c := rich(4, "a"), rich(5, "b"), rich(6, "c")
	few := func(letter string) tree.Node { return onPage(7, forty(letter)) }
	// With the next one: as the first one, and as one in the middle.
	gone(t, onPage(3, branch(list("b", "c"), few("0"), b, c)), "01", branch(list("c"), joined(sized(20, "02"), b), c))
	gone(t, onPage(3, branch(list("b", "c"), few("0"), b, c)), "02", branch(list("c"), joined(sized(20, "01"), b), c))
	gone(t, onPage(3, branch(list("aa", "c"), a, few("b"), c)), "b1", branch(list("aa"), a, joined(sized(20, "b2"), c)))
	// With the one ahead, as the last one.
	gone(t, onPage(3, branch(list("b", "d"), a, b, few("d"))), "d1", branch(list("b"), a, joined(b, sized(20, "d2"))))
	gone(t, onPage(3, branch(list("b", "d"), a, b, few("d"))), "d2", branch(list("b"), a, joined(b, sized(20, "d1"))))
	// Of two: the root has one child left, and falls away.
	gone(t, onPage(3, branch(list("b"), few("0"), b)), "02", joined(sized(20, "01"), b))
	gone(t, onPage(3, branch(list("b"), a, few("b"))), "b1", joined(a, sized(20, "b2")))
	// The least one that needn't be merged, and one that needs it just.
	least := onPage(7, leaf("00", text(16), "01", text(4), "02", text(5))) // 21, 9, 10
	gone(t, onPage(3, branch(list("b"), least, b)), "02", branch(list("b"), lessKey(least, "02"), b))
	gone(t, onPage(3, branch(list("b"), onPage(7, leaf("00", text(16), "01", text(3), "02", text(5))), b)), "02", joined(leaf("00", text(16), "01", text(3)), b))
	// One without any key left, which Check wouldn't have allowed.
	gone(t, onPage(3, branch(list("b", "c"), leaf("a", "1"), b, c)), "a", branch(list("c"), joined(b), c))
}

// TestDeleteSplitsLeafAgain asks for a low leaf beside a full one: the two are as great as one another then.
func TestDeleteSplitsLeafAgain(t *testing.T) {
	a := rich(4, "a")
	few, full := onPage(7, sized(20, "m1", "m2")), onPage(8, sized(20, "n1", "n2", "n3", "n4", "n5", "n6"))
	gone(t, onPage(3, branch(list("m", "n"), a, few, full)), "m2", branch(list("m", "n3"), a, sized(20, "m1", "n1", "n2"), sized(20, "n3", "n4", "n5", "n6")))
	gone(t, onPage(3, branch(list("n"), few, full)), "m1", branch(list("n3"), sized(20, "m2", "n1", "n2"), sized(20, "n3", "n4", "n5", "n6")))
	last := onPage(7, sized(20, "o1", "o2"))
	gone(t, onPage(3, branch(list("n", "o"), a, full, last)), "o1", branch(list("n", "n4"), a, sized(20, "n1", "n2", "n3"), sized(20, "n4", "n5", "n6", "o2")))
	gone(t, onPage(3, branch(list("o"), full, last)), "o2", branch(list("n4"), sized(20, "n1", "n2", "n3"), sized(20, "n4", "n5", "n6", "o1")))
	// The greatest that go into one page, and the least that don't.
	full = onPage(8, leaf("n1", text(15), "n2", text(15), "n3", text(15), "n4", text(15), "n5", text(16))) // 101
	few = onPage(7, leaf("m1", text(16), "m2", text(16)))                                                  // 21
	n := branch(list("n"), few, full)
	gone(t, n, "m2", joined(sized(21, "m1"), full)) // 122
	full.Vals[0].Data = text(16)
	gone(t, n, "m2", branch(list("n3"), joined(sized(21, "m1"), sized(21, "n1"), sized(20, "n2")), lessKey(lessKey(full, "n1"), "n2"))) // 123: 62 and 61
}

// brimful is a branch of 4, 18 and five of 20: 122. Its first leaf is nearly low, and its second one is full, of keys of 16 bytes.
func brimful() tree.Node {
	full := tree.Empty()
	for _, key := range wides('c', 6) { // each 20
		full = joined(full, leaf(key, "1"))
	}
	n := branch(list("b"+text(13)), forty("a"), full)
	for _, letter := range letters('m', 5) {
		n.Keys, n.Kids = append(n.Keys, wide(letter)), append(n.Kids, forty(letter))
	}
	return n
}

// TestDeleteSplitsRoot asks for a root that has no room for the greater key by which two leaves are parted again: the tree has a level more for an entry less.
func TestDeleteSplitsRoot(t *testing.T) {
	n := laid(brimful())
	accepted(t, n)
	got, ok := remove(t, n, "a2") // 140 in the two leaves: 60 and 80, parted at a key of 16, so the root has 124: 64 and 60
	is(t, got, branch(list(wide("o")),
		branch(list(wide("e"), wide("m"), wide("n")), joined(sized(20, "a1"), leaf(wide("c"), "1", wide("d"), "1")), leaf(wide("e"), "1", wide("f"), "1", wide("g"), "1", wide("h"), "1"), n.Kids[2], n.Kids[3]),
		branch(list(wide("p"), wide("q")), n.Kids[4:]...)))
	is(t, got, plainDelete(n, "a2", nil))
	accepted(t, got)
	if !ok || levels(got) != 3 {
		t.Fatalf("%v, %d levels", ok, levels(got))
	}
}

// P16.1: Delete in three levels.

// TestDeleteMergesBranch asks for branches that have a kid less: each of them is low then, and merged, and what has no part in it stays at its page.
func TestDeleteMergesBranch(t *testing.T) {
	n := laid(threeLevels())
	accepted(t, n)
	first, second, third := n.Kids[0], n.Kids[1], n.Kids[2]
	longKeys := func(letters ...string) []string { // as the kids' keys are, but that of a branch's first kid
		var out []string
		for _, letter := range letters {
			if letter != "i" && letter != "q" {
				letter += text(9)
			}
			out = append(out, letter)
		}
		return out
	}
	// With the next one: the first one of three, by its first leaf, the second one, and the last one.
	gone(t, n, "a1", branch(list("q"), branch(longKeys("f", "i", "l", "o"), slices.Concat([]tree.Node{joined(sized(20, "a2"), first.Kids[1]), first.Kids[2]}, second.Kids)...), third))
	gone(t, n, "d2", branch(list("q"), branch(longKeys("c", "i", "l", "o"), slices.Concat([]tree.Node{first.Kids[0], joined(sized(20, "d1"), first.Kids[2])}, second.Kids)...), third))
	gone(t, n, "g1", branch(list("q"), branch(longKeys("c", "i", "l", "o"), slices.Concat([]tree.Node{first.Kids[0], joined(first.Kids[1], sized(20, "g2"))}, second.Kids)...), third))
	// The one in the middle.
	gone(t, n, "m1", branch(list("i"), first, branch(longKeys("l", "q", "s", "v"), slices.Concat([]tree.Node{second.Kids[0], joined(sized(20, "m2"), second.Kids[2])}, third.Kids)...)))
	// With the one ahead: the last one.
	gone(t, n, "q2", branch(list("i"), first, branch(longKeys("l", "o", "q", "v"), slices.Concat(second.Kids, []tree.Node{joined(sized(20, "q1"), third.Kids[1]), third.Kids[2]})...)))
	gone(t, n, "w2", branch(list("i"), first, branch(longKeys("l", "o", "q", "s"), slices.Concat(second.Kids, []tree.Node{third.Kids[0], joined(third.Kids[1], sized(20, "w1"))})...)))
	// Of two: the root has one child left, and falls away.
	two := onPage(9, branch(list("i"), first, second))
	gone(t, two, "a2", branch(longKeys("f", "i", "l", "o"), slices.Concat([]tree.Node{joined(sized(20, "a1"), first.Kids[1]), first.Kids[2]}, second.Kids)...))
	gone(t, two, "p1", branch(longKeys("c", "f", "i", "l"), slices.Concat(first.Kids, []tree.Node{second.Kids[0], joined(second.Kids[1], sized(20, "p2"))})...))
}

// TestDeleteSplitsBranchAgain asks for a low branch beside a full one.
func TestDeleteSplitsBranchAgain(t *testing.T) {
	few := thirtyTwo("a", "d", "c", "g", "f")
	full := branch(nil, forty("j"))
	for _, letter := range letters('k', 5) {
		full.Keys, full.Kids = append(full.Keys, wide(letter)), append(full.Kids, forty(letter))
	}
	n := laid(branch(list("i"), few, full)) // 32 and 104
	few, full = n.Kids[0], n.Kids[1]
	accepted(t, n)
	low := joined(sized(20, "a2"), few.Kids[1])
	// 4, 14, 5 and five of 20: 123, parted at 63 and 60.
	gone(t, n, "a1", branch(list(wide("m")),
		branch(list("f"+text(9), "i", wide("k"), wide("l")), slices.Concat([]tree.Node{low, few.Kids[2]}, full.Kids[:3])...),
		branch(list(wide("n"), wide("o")), full.Kids[3:]...)))
	// The last one, with the one ahead, in the middle of three.
	few = thirtyTwo("r", "u", "t", "x", "w")
	n = laid(branch(list("i", "q0"), thirtyTwo("a", "d", "c", "g", "f"), full, few)) // 4, five of 20, 6 and 14: 124, parted at 64 and 60
	few, full = n.Kids[2], n.Kids[1]
	accepted(t, n)
	gone(t, n, "x1", branch(list("i", wide("n")), n.Kids[0],
		branch(list(wide("k"), wide("l"), wide("m")), full.Kids[:4]...),
		branch(list(wide("o"), "q0", "t"+text(9)), slices.Concat(full.Kids[4:], []tree.Node{few.Kids[0], joined(few.Kids[1], sized(20, "x2"))})...)))
}

// TestDeleteSplitsBranch asks for a branch that has no room for the greater key by which two of its leaves are parted again.
func TestDeleteSplitsBranch(t *testing.T) {
	n := laid(branch(list("r"), brimful(), thirtyTwo("s", "u", "t", "w", "v")))
	accepted(t, n)
	inner := n.Kids[0]
	gone(t, n, "a2", branch(list(wide("o"), "r"),
		branch(list(wide("e"), wide("m"), wide("n")), joined(sized(20, "a1"), leaf(wide("c"), "1", wide("d"), "1")), leaf(wide("e"), "1", wide("f"), "1", wide("g"), "1", wide("h"), "1"), inner.Kids[2], inner.Kids[3]),
		branch(list(wide("p"), wide("q")), inner.Kids[4:]...),
		n.Kids[1]))
}

// P16.1: Delete in trees that Put made.

// grown is a tree beside a plain map.
type grown struct {
	n       tree.Node
	entries map[string]string
	many    int // how many were deleted
}

func (g *grown) put(key, value string) {
	g.n = tree.Put(g.n, key, value)
	g.entries[key] = value
}

// grow puts entries until the tree has so many levels, and a third as many behind that.
func grow(t *testing.T, many int, next func(i int) (string, string)) *grown {
	t.Helper()
	g := &grown{n: tree.Empty(), entries: map[string]string{}}
	end := 20000
	for i := 0; i < end; i++ {
		if end == 20000 && levels(g.n) == many {
			end = i + i/3
		}
		key, value := next(i)
		g.put(key, value)
	}
	if levels(g.n) != many {
		t.Fatalf("%d levels, want %d", levels(g.n), many)
	}
	accepted(t, g.n)
	holds(t, g.n, g.entries)
	return g
}

// grownTrees is trees of one level to four, with keys and values of all sizes, and each of them thinned, all over and in stretches; and trees whose nodes have few cells or many.
func grownTrees(t *testing.T) []*grown {
	t.Helper()
	var out []*grown
	for many := 1; many <= 4; many++ {
		draw := dice(uint64(many))
		for _, g := range []*grown{
			grow(t, many, func(i int) (string, string) { return digits(i, 16), text(1) }),
			grow(t, many, func(i int) (string, string) { return digits(4095-i, 14), text(i % 18) }),
			grow(t, many, func(i int) (string, string) { return digits(i*1597%4096, 15), text(16) }),
			grow(t, many, drawnEntries(draw, 26)),
			grow(t, many, drawnEntries(draw, 2)),
		} {
			keys := keysOf(g.n)
			var stretches []string
			for part := range slices.Chunk(keys, 12) {
				stretches = append(stretches, part[:len(part)/2]...)
			}
			out = append(out, g, thinned(t, g, shuffled(draw, keys)), thinned(t, g, shuffled(draw, stretches)))
		}
		for range 3 {
			out = append(out, uneven(t, draw, many))
		}
	}
	return out
}

// thinned is a tree without so many keys of an order that one less makes it lose a level.
func thinned(t *testing.T, g *grown, order []string) *grown {
	t.Helper()
	out := &grown{n: g.n, entries: maps.Clone(g.entries)}
	for _, key := range order {
		next := plainDelete(out.n, key, nil)
		if levels(next) < levels(g.n) || len(next.Keys) == 0 {
			break
		}
		out.n = next
		delete(out.entries, key)
	}
	accepted(t, out.n)
	holds(t, out.n, out.entries)
	return out
}

// uneven is a tree of which some nodes are nearly low, and the others nearly full.
func uneven(t *testing.T, draw func(below int) int, many int) *grown {
	t.Helper()
	g := &grown{entries: map[string]string{}}
	next := 0
	var build func(many int) tree.Node
	build = func(many int) tree.Node {
		n := tree.Node{Leaf: many == 1}
		if n.Leaf {
			for range []int{2, 6}[draw(2)] { // of 20 each
				next++
				n = joined(n, leaf(digits(next, 16), "1"))
				g.entries[digits(next, 16)] = "1"
			}
			return n
		}
		n = branch(nil, build(many-1))
		for range []int{2, 5}[draw(2)] { // of 20 each, and 4
			n.Keys = append(n.Keys, digits(next+1, 16))
			n.Kids = append(n.Kids, build(many-1))
		}
		return n
	}
	g.n = build(many)
	accepted(t, g.n)
	holds(t, g.n, g.entries)
	return g
}

// drawnEntries produces keys of 1 to 16 bytes, most of them long, and values at the edges.
func drawnEntries(draw func(below int) int, letters int) func(i int) (string, string) {
	return func(i int) (string, string) {
		key := make([]byte, 12+draw(5))
		if draw(3) == 0 {
			key = make([]byte, 1+draw(maxKey))
		}
		for k := range key {
			key[k] = byte('a' + draw(letters))
		}
		return string(key), text(valueSizes[draw(len(valueSizes))])
	}
}

// remove deletes a key, against the chapter's words, from a tree that is laid but each third time, with the pages of each node held against what they were; and, if it is to be thorough, with the rule on memory, and against the map.
func (g *grown) remove(t *testing.T, key string, s seen, isThorough bool) {
	t.Helper()
	n := g.n
	isLaid := g.many%3 > 0
	if isLaid {
		n = laid(n)
	}
	g.many++
	was := twin(n)
	var got tree.Node
	var ok bool
	if isThorough {
		got, ok = remove(t, n, key)
	} else {
		got, ok = prune.Delete(n, key)
	}
	if !ok {
		t.Fatalf("Delete of %q = false, of%s", key, show(was))
	}
	is(t, n, was)
	is(t, got, plainDelete(was, key, s))
	accepted(t, got)
	if isLaid {
		onPath(t, was, got, key)
	}
	if value, ok := tree.Find(got, key); ok {
		t.Fatalf("Find of %q = %q, behind its Delete", key, value)
	}
	delete(g.entries, key)
	g.n = got
	if isThorough {
		holds(t, g.n, g.entries)
	}
}

// TestDeleteEach deletes each key of trees of one level to four, each of them from the whole tree.
func TestDeleteEach(t *testing.T) {
	s := seen{}
	for _, g := range grownTrees(t) {
		n := laid(g.n)
		for i, key := range keysOf(n) {
			one := &grown{n: n, entries: maps.Clone(g.entries), many: 1}
			one.remove(t, key, s, i%16 == 0)
			if i%4 == 0 {
				holds(t, one.n, one.entries)
			}
		}
	}
	met(t, s)
}

// met holds that all that a deletion does to nodes happened.
func met(t *testing.T, s seen) {
	t.Helper()
	for _, what := range []string{"great enough", "merged with next", "merged with ahead", "split again, with next", "split again, with ahead"} {
		for _, name := range []string{"leaf " + what, "branch " + what} {
			if s[name] == 0 {
				t.Errorf("never: %s, of %v", name, s)
			}
		}
	}
	for _, kind := range []string{"leaf", "branch"} {
		if s["root falls away, and leaves a "+kind] == 0 {
			t.Errorf("never: root falls away, and leaves a %s, of %v", kind, s)
		}
	}
}

// TestDeleteAll deletes all keys of trees, in rising, falling and drawn orders and from both ends, until there is nothing left.
func TestDeleteAll(t *testing.T) {
	s := seen{}
	for i, g := range grownTrees(t) {
		rising := keysOf(g.n)
		for _, order := range [][]string{rising, reversed(rising), shuffled(dice(uint64(i)), rising), fromEnds(rising), reversed(fromEnds(rising))} {
			deleteAll(t, g, order, s)
		}
	}
	met(t, s)
}

// deleteAll deletes keys in an order.
func deleteAll(t *testing.T, g *grown, order []string, s seen) {
	t.Helper()
	left := &grown{n: g.n, entries: maps.Clone(g.entries)}
	for i, key := range order {
		left.remove(t, key, s, i%64 == 0 || len(order)-i < 4)
	}
	if len(left.entries) != 0 {
		t.Fatalf("%d entries are left", len(left.entries))
	}
	is(t, left.n, tree.Empty())
}

func reversed(l []string) []string {
	out := slices.Clone(l)
	slices.Reverse(out)
	return out
}

// shuffled is a list in a drawn order.
func shuffled(draw func(below int) int, l []string) []string {
	out := slices.Clone(l)
	for i := range out {
		at := draw(i + 1)
		out[i], out[at] = out[at], out[i]
	}
	return out
}

// fromEnds is a list's first element, its last one, its second one, and so on.
func fromEnds(l []string) []string {
	var out []string
	for i := range (len(l) + 1) / 2 {
		out = append(out, l[i])
		if last := len(l) - 1 - i; last != i {
			out = append(out, l[last])
		}
	}
	return out
}
