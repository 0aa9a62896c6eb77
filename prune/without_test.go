package prune_test

import (
	"maps"
	"slices"
	"testing"

	"jalousie/prune"
	"jalousie/tree"
)

// plainWithout is a tree without keys, and how many were there.
func plainWithout(n tree.Node, keys []string) (tree.Node, int) {
	many := 0
	for _, key := range keys {
		if slices.Contains(keysOf(n), key) {
			n = plainDelete(n, key, nil)
			many++
		}
	}
	return n, many
}

// lacks holds what Without tells, and that it is what Delete tells of one key after another.
func lacks(t *testing.T, n tree.Node, keys []string, want tree.Node, many int) {
	t.Helper()
	got, gotMany := without(t, n, keys)
	if gotMany != many {
		t.Fatalf("Without of %q tells %d, want %d, of%s", keys, gotMany, many, show(n))
	}
	is(t, got, want)
	one, deleted := n, 0
	for _, key := range keys {
		next, ok := prune.Delete(one, key)
		if ok {
			deleted++
		}
		one = next
	}
	is(t, got, one)
	if deleted != many {
		t.Fatalf("Delete tells true %d times, want %d, of %q and%s", deleted, many, keys, show(n))
	}
}

// P16.2.

// TestWithoutNone asks for no keys, and for keys that aren't there: the tree comes back with each page of it.
func TestWithoutNone(t *testing.T) {
	for _, n := range []tree.Node{tree.Empty(), onPage(7, tree.Empty()), leaf("k", "v"), laid(leaf("k", text(400))), laid(branch(list("c"), forty("a"), forty("c"))), laid(threeLevels()), threeLevels()} {
		lacks(t, n, nil, n, 0)
		lacks(t, n, []string{}, n, 0)
		lacks(t, n, list(""), n, 0)
		lacks(t, n, list("", "", "c", "b", "\xff", "i", "q", text(16), text(300)), n, 0)
	}
}

func TestWithoutInLeaf(t *testing.T) {
	n := onPage(9, leaf("b", "1", "d", text(30), "f", "3"))
	n.Vals[1].Pages = []int{5, 6}
	d := tree.Node{Leaf: true, Keys: n.Keys[1:2], Vals: n.Vals[1:2]}
	lacks(t, n, list("b"), joined(d, leaf("f", "3")), 1)
	lacks(t, n, list("b", "f"), d, 2)
	lacks(t, n, list("f", "b"), d, 2)
	lacks(t, n, list("d", "b"), leaf("f", "3"), 2)
	// A key that comes twice counts once, and those that aren't there don't.
	lacks(t, n, list("b", "b"), joined(d, leaf("f", "3")), 1)
	lacks(t, n, list("b", "f", "b", "f", "b"), d, 2)
	lacks(t, n, list("a", "b", "c", "e", "f", "g", ""), d, 2)
	lacks(t, n, list("", "a", "b"), joined(d, leaf("f", "3")), 1)
	// All of them, and further ones behind the last.
	lacks(t, n, list("b", "d", "f"), tree.Empty(), 3)
	lacks(t, n, list("f", "x", "d", "d", "b", "b", "a"), tree.Empty(), 3)
	lacks(t, leaf("k", "v"), list("k"), tree.Empty(), 1)
	lacks(t, leaf("k", "v"), list("k", "k", "k"), tree.Empty(), 1)
}

func TestWithoutInMoreLevels(t *testing.T) {
	a, b, c := rich(4, "a"), rich(5, "b"), rich(6, "c")
	n := onPage(3, branch(list("b", "c"), a, b, c))
	lacks(t, n, list("a1", "c4"), branch(list("b", "c"), lessKey(a, "a1"), b, lessKey(c, "c4")), 2)
	lacks(t, n, list("b1", "c4", "b1", "b5"), branch(list("b", "c"), a, lessKey(b, "b1"), lessKey(c, "c4")), 2)
	lacks(t, n, slices.Concat(a.Keys, b.Keys, c.Keys), tree.Empty(), 12)
}

// TestWithoutInOrder asks for two keys in both orders: either b is low first, and is put together with c, and then a with both, or a is low first, and b is great enough by it.
func TestWithoutInOrder(t *testing.T) {
	n := laid(branch(list("b", "c", "d"), forty("a"), forty("b"), forty("c"), forty("d")))
	lacks(t, n, list("b1", "a1"), branch(list("d"), sized(20, "a2", "b2", "c1", "c2"), n.Kids[3]), 2)
	lacks(t, n, list("a1", "b1"), branch(list("c", "d"), sized(20, "a2", "b2"), n.Kids[2], n.Kids[3]), 2)
	lacks(t, n, list("a1", "b1", "a1"), branch(list("c", "d"), sized(20, "a2", "b2"), n.Kids[2], n.Kids[3]), 2)
}

// TestWithoutDrawn asks for keys of trees of one level to four, some of which aren't there and some of which come more than once.
func TestWithoutDrawn(t *testing.T) {
	draw := dice(16)
	for _, g := range grownTrees(t) {
		keys := keysOf(g.n)
		for _, many := range []int{1, 2, 3, 10, len(keys), 2 * len(keys)} {
			var l []string
			for range many {
				key := keys[draw(len(keys))]
				if draw(4) == 0 {
					key = key[:draw(len(key))] + "\x7f"
				}
				l = append(l, key)
			}
			left := maps.Clone(g.entries)
			for _, key := range l {
				delete(left, key)
			}
			n := g.n
			if draw(3) > 0 {
				n = laid(n)
			}
			want, wantMany := plainWithout(n, l)
			if wantMany != len(g.entries)-len(left) {
				t.Fatalf("%d of %d entries go, but %d are left", wantMany, len(g.entries), len(left))
			}
			lacks(t, n, l, want, wantMany)
			got, _ := prune.Without(n, l)
			holds(t, got, left)
			accepted(t, got)
		}
	}
}

// TestWithoutAll asks for all keys at once.
func TestWithoutAll(t *testing.T) {
	for i, g := range grownTrees(t) {
		keys := keysOf(g.n)
		for _, l := range [][]string{keys, reversed(keys), shuffled(dice(uint64(i)), slices.Concat(keys, keys)), fromEnds(keys)} {
			got, many := prune.Without(laid(g.n), l)
			if many != len(keys) {
				t.Fatalf("Without tells %d, want %d", many, len(keys))
			}
			is(t, got, tree.Empty())
		}
	}
}

// P16.3.

// TestPutAndDelete puts a key that isn't there at each place of trees, and deletes it again: the entries are as they were.
func TestPutAndDelete(t *testing.T) {
	for _, g := range grownTrees(t) {
		n := laid(g.n)
		was := entriesOf(n)
		for i, key := range append(keysOf(n), "!") {
			for _, beside := range []string{key[:len(key)-1] + "!", key[:len(key)-1] + "~", (key + "!")[:min(len(key)+1, maxKey)]} {
				if _, ok := g.entries[beside]; ok {
					continue
				}
				size := valueSizes[i%len(valueSizes)]
				got, ok := prune.Delete(tree.Put(n, beside, text(size)), beside)
				if !ok {
					t.Fatalf("Delete of %q = false, behind its Put in%s", beside, show(n))
				}
				if now := entriesOf(got); !slices.Equal(now, was) {
					t.Fatalf("the entries are %q behind Put and Delete of %q, and were %q", now, beside, was)
				}
				accepted(t, got)
				if pages := pagesOf(got); !maps.EqualFunc(pages, pagesOf(n), slices.Equal) {
					t.Fatalf("values are in the pages %v, and were in %v", pages, pagesOf(n))
				}
			}
		}
	}
	got, ok := remove(t, tree.Put(tree.Empty(), "k", "v"), "k")
	if !ok {
		t.Fatal("Delete of k = false")
	}
	is(t, got, tree.Empty())
}

// TestPutAndDeleteDrawn puts and deletes in any order, beside a plain map.
func TestPutAndDeleteDrawn(t *testing.T) {
	for seed := range uint64(6) {
		draw := dice(seed)
		next := drawnEntries(draw, []int{26, 3, 2}[seed%3])
		g := &grown{n: tree.Empty(), entries: map[string]string{}}
		for step := range 600 {
			keys := keysOf(g.n)
			grows := step/100%2 == 0 // in turn, so that the tree gets and loses levels
			if len(keys) == 0 || (draw(4) > 0) == grows {
				g.put(next(step))
				continue
			}
			g.remove(t, keys[draw(len(keys))], nil, step%32 == 0)
		}
		holds(t, g.n, g.entries)
	}
}

// TestDeleteTwice deletes a key that was deleted already, and asks for others.
func TestDeleteTwice(t *testing.T) {
	for _, g := range grownTrees(t) {
		keys := keysOf(g.n)
		key := keys[len(keys)/2]
		n, ok := prune.Delete(g.n, key)
		if !ok {
			t.Fatalf("Delete of %q = false", key)
		}
		hasNone(t, n, key)
		for _, other := range keys {
			value, ok := tree.Find(n, other)
			if ok != (other != key) || ok && value != g.entries[other] {
				t.Fatalf("Find of %q = %q, %v, behind Delete of %q", other, value, ok, key)
			}
		}
	}
}

// Nodes that may not be.

// TestDeleteThroughChains asks in trees with branches of one child: they fall away at the root alone.
func TestDeleteThroughChains(t *testing.T) {
	chain := func(n tree.Node) tree.Node { return onPage(8, branch(nil, n)) }
	gone(t, chain(chain(onPage(9, leaf("a", "0", "b", "1")))), "a", leaf("b", "1"))
	gone(t, chain(chain(onPage(9, leaf("a", "0")))), "a", tree.Empty())
	hasNone(t, chain(chain(onPage(9, leaf("a", "0")))), "b")
	n := branch(list("m"), chain(rich(6, "a")), chain(rich(7, "m")))
	for _, key := range list("a1", "a4", "m1", "m3") {
		for _, n := range []tree.Node{n, laid(n), chain(n), branch(list("x"), n, chain(chain(leaf("y", "2"))))} {
			gone(t, n, key, plainDelete(n, key, nil))
		}
	}
	// A leaf that is too great is parted, though it has a key less.
	n = branch(list("x"), onPage(4, sized(20, letters('a', 9)...)), onPage(5, leaf("x", "1")))
	gone(t, n, "b", branch(list("f", "x"), sized(20, "a", "c", "d", "e"), sized(20, "f", "g", "h", "i"), onPage(5, leaf("x", "1"))))
	gone(t, onPage(4, sized(20, letters('a', 9)...)), "b", branch(list("f"), sized(20, "a", "c", "d", "e"), sized(20, "f", "g", "h", "i")))
}

// TestDeleteOfKeyTwice asks for a leaf that has a key twice: it is without it behind that.
func TestDeleteOfKeyTwice(t *testing.T) {
	n, ok := remove(t, leaf("a", "1", "b", "2", "b", "3", "c", "4", "b", "5"), "b")
	if !ok {
		t.Fatal("Delete of b = false")
	}
	is(t, n, leaf("a", "1", "c", "4"))
	n, ok = remove(t, leaf("b", "2", "b", "3"), "b")
	if !ok {
		t.Fatal("Delete of b = false")
	}
	is(t, n, tree.Empty())
}

// TestDeleteOfSharedLists asks in trees whose nodes share their lists: what is told doesn't, and they stay what they were.
func TestDeleteOfSharedLists(t *testing.T) {
	kid := rich(4, "a")
	n := branch(list("a1", "b"), kid, kid, kid)
	was := memory(n)
	for _, key := range list("a1", "a4", "x") {
		got, ok := prune.Delete(n, key)
		if ok != (key != "x") || !scribble(&got) || !slices.Equal(memory(n), was) {
			t.Fatalf("Delete of %q = %v, or shares memory, in%s", key, ok, show(n))
		}
	}
	got, many := prune.Without(n, list("a2", "a3", "b1"))
	if many != 2 || !scribble(&got) || !slices.Equal(memory(n), was) {
		t.Fatalf("Without tells %d, or shares memory, in%s", many, show(n))
	}
}

// TestOfAnything asks for nodes whose rows don't fit one another: no call panics, changes what it is handed, or keeps it.
func TestOfAnything(t *testing.T) {
	draw := dice(160)
	key := func() string { return []string{"", "a", "b", "m", wide("c"), wide("x"), text(50)}[draw(7)] }
	var drawn func(depth int) tree.Node
	drawn = func(depth int) tree.Node {
		n := tree.Node{Page: draw(2), Leaf: draw(3) == 0 || depth == 0}
		for range draw(9) {
			n.Keys = append(n.Keys, key())
		}
		for i := 0; i < len(n.Keys)+draw(3)-1 && (n.Leaf || draw(9) == 0); i++ {
			n.Vals = append(n.Vals, tree.Val{Data: text(draw(40)), Pages: make([]int, draw(2))})
		}
		for i := 0; i < len(n.Keys)+draw(3)-1 && depth > 0 && (!n.Leaf || draw(9) == 0); i++ {
			n.Kids = append(n.Kids, drawn(depth-1))
		}
		return n
	}
	deleted := 0
	for range 1500 {
		n, k := drawn(draw(4)), key()
		_, found := tree.Find(n, k)
		got, ok := remove(t, n, k)
		if ok != found {
			t.Fatalf("Delete of %q = %v, of%s", k, ok, show(n))
		}
		if ok {
			deleted++
		} else {
			is(t, got, n)
		}
		without(t, n, list(k, key(), key()))
	}
	if deleted < 200 {
		t.Fatalf("only %d", deleted)
	}
}

// TestOfDeep asks in trees with as many levels as the document speaks of.
func TestOfDeep(t *testing.T) {
	chain := onPage(9, leaf("b", "1", "c", "3"))
	for range 1<<16 - 2 {
		chain = onPage(8, branch(nil, chain))
	}
	// None of these is shown: it is too great for that.
	got, ok := prune.Delete(chain, "c")
	if !ok || !alike(got, leaf("b", "1")) {
		t.Fatal("Delete tells another tree")
	}
	n := branch(list("m"), chain, leaf("m", text(16), "n", text(16)))
	got, ok = prune.Delete(n, "x")
	if ok || !alike(got, n) {
		t.Fatal("Delete of no key tells another tree")
	}
	got, many := prune.Without(n, list("c", "x", "n"))
	if many != 2 {
		t.Fatalf("Without tells %d", many)
	}
	for _, key := range list("b", "m", "c", "n") {
		if _, ok := tree.Find(got, key); ok != (key < "c" || key == "m") {
			t.Fatalf("Find of %q = %v", key, ok)
		}
	}
	if chain.Page != 8 || n.Kids[0].Page != 8 || n.Kids[0].Kids[0].Page != 8 {
		t.Fatal("Delete changes what it is handed")
	}
}
