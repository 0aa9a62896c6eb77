package tree_test

import (
	"fmt"
	"slices"
	"testing"

	"jalousie/tree"
)

// P15.4: Put in a leaf.

func TestPutInEmpty(t *testing.T) {
	n := put(t, tree.Empty(), "k", "v")
	is(t, n, leaf("k", "v"))
	sizes(t, n, 5)
	check(t, n, true)
	is(t, put(t, onPage(7, tree.Empty()), "k", text(400)), leaf("k", text(400)))
	is(t, put(t, tree.Empty(), text(16), ""), leaf(text(16), ""))
}

func TestPutInLeaf(t *testing.T) {
	n := onPage(9, leaf("b", "1", "d", text(30), "f", "3"))
	n.Vals[1].Pages = []int{5, 6}
	far := func(l ...string) tree.Node { // the second one of d's values stays where it is
		out := leaf(l...)
		out.Vals[slices.Index(out.Keys, "d")].Pages = []int{5, 6}
		return out
	}
	// New keys: at the beginning, between each two, at the end.
	is(t, put(t, n, "a", "0"), far("a", "0", "b", "1", "d", text(30), "f", "3"))
	is(t, put(t, n, "c", "0"), far("b", "1", "c", "0", "d", text(30), "f", "3"))
	is(t, put(t, n, "e", text(17)), far("b", "1", "d", text(30), "e", text(17), "f", "3"))
	is(t, put(t, n, "g", ""), far("b", "1", "d", text(30), "f", "3", "g", ""))
	is(t, put(t, n, "b\x00", "0"), far("b", "1", "b\x00", "0", "d", text(30), "f", "3"))
	is(t, put(t, n, "\xff", "0"), far("b", "1", "d", text(30), "f", "3", "\xff", "0"))
	// Keys that are there: with a shorter value, a longer one, the same one, and one that is long.
	is(t, put(t, n, "b", ""), far("b", "", "d", text(30), "f", "3"))
	is(t, put(t, n, "f", "333"), far("b", "1", "d", text(30), "f", "333"))
	is(t, put(t, n, "f", "3"), far("b", "1", "d", text(30), "f", "3"))
	is(t, put(t, n, "b", text(400)), far("b", text(400), "d", text(30), "f", "3"))
	// What is put stands nowhere yet, though it be the same.
	is(t, put(t, n, "d", text(30)), leaf("b", "1", "d", text(30), "f", "3"))
	is(t, put(t, n, "d", text(16)), leaf("b", "1", "d", text(16), "f", "3"))
	is(t, put(t, n, "d", text(31)), leaf("b", "1", "d", text(31), "f", "3"))
}

// TestPutWrong asks for keys and values that may not be: they are put like others, and Check doesn't accept that.
func TestPutWrong(t *testing.T) {
	for _, c := range []struct{ key, value string }{{"", "v"}, {text(17), "v"}, {text(300), ""}, {"k", text(401)}, {"k", text(5000)}} {
		n := put(t, tree.Empty(), c.key, c.value)
		is(t, n, leaf(c.key, c.value))
		check(t, n, false)
		hasKey(t, n, c.key, c.value)
		n = put(t, put(t, n, "a", "1"), "z", "2")
		hasKey(t, n, c.key, c.value)
		hasKey(t, n, "a", "1")
		hasKey(t, n, "z", "2")
		check(t, n, false)
	}
	is(t, put(t, leaf("a", "1"), text(200), "v"), branch(list(text(200)), leaf("a", "1"), leaf(text(200), "v")))
	is(t, put(t, leaf("a", "1"), "", "v"), leaf("", "v", "a", "1"))
}

// TestPutSplitsRoot asks for the entry that a root leaf has no room for.
func TestPutSplitsRoot(t *testing.T) {
	six := onPage(9, sized(20, letters('b', 6)...)) // 120
	is(t, put(t, six, "a", text(16)), branch(list("d"), sized(20, "a", "b", "c"), sized(20, "d", "e", "f", "g")))
	is(t, put(t, six, "h", text(16)), branch(list("e"), sized(20, "b", "c", "d"), sized(20, "e", "f", "g", "h")))
	is(t, put(t, six, "h", text(0)), branch(list("e"), sized(20, "b", "c", "d"), leafOf(sized(20, "e", "f", "g"), leaf("h", "")))) // 124: 60 and 64
	six.Keys[5], six.Vals[5] = "g", tree.Val{Data: text(14)}                                                                       // 118
	is(t, put(t, six, "h", ""), leafOf(twinAt(0, six), leaf("h", "")))
}

// TestPutAcrossInline asks for values that become long, and that no longer are: it makes the cell smaller, and greater.
func TestPutAcrossInline(t *testing.T) {
	// Each of 14 is 8: 112.
	var n tree.Node
	for _, key := range letters('a', 14) {
		n = leafOf(n, leaf(key, text(17)))
	}
	n.Leaf, n.Page = true, 5
	grown := put(t, n, "b", text(16)) // 124: 60 and 64
	is(t, grown, branch(list("g"), leafOf(leaf("a", text(17), "b", text(16)), leaf("c", text(17), "d", text(17), "e", text(17), "f", text(17))), part(n, 6, 14)))
	// Back again neither of the two is low.
	again := put(t, grown, "b", text(17))
	is(t, again, branch(list("g"), part(n, 0, 6), part(n, 6, 14)))
	// Two of 40 each: with two long values one is low, and the two are one leaf.
	two := onPage(3, branch(list("c"), onPage(4, sized(20, "a", "b")), onPage(5, sized(20, "c", "d"))))
	less := put(t, two, "c", text(17)) // 28
	is(t, less, leaf("a", text(16), "b", text(16), "c", text(17), "d", text(16)))
	less = put(t, two, "a", text(400))
	is(t, less, leaf("a", text(400), "b", text(16), "c", text(16), "d", text(16)))
	// 28 with 100 are parted again.
	two = onPage(3, branch(list("c"), onPage(4, sized(20, "a", "b")), onPage(5, sized(20, letters('c', 5)...))))
	is(t, put(t, two, "b", text(20)), branch(list("e"), leaf("a", text(16), "b", text(20), "c", text(16), "d", text(16)), sized(20, letters('e', 3)...))) // 68 and 60
}

// part is the cells of a leaf from an index to another one.
func part(n tree.Node, from, to int) tree.Node {
	return tree.Node{Leaf: true, Keys: n.Keys[from:to], Vals: n.Vals[from:to]}
}

// P15.4: Put in trees of more levels.

// TestPutInTwoLevels asks for keys of each leaf: the others stay where they are.
func TestPutInTwoLevels(t *testing.T) {
	a, g, p := onPage(4, sized(20, "b", "d")), stored(5, "g"), stored(6, "p")
	n := onPage(3, branch(list("f", "m"), a, g, p))
	is(t, put(t, n, "a", "1"), branch(list("f", "m"), leafOf(leaf("a", "1"), a), g, p))
	is(t, put(t, n, "c", "1"), branch(list("f", "m"), leaf("b", text(16), "c", "1", "d", text(16)), g, p))
	is(t, put(t, n, "ez", "1"), branch(list("f", "m"), leafOf(a, leaf("ez", "1")), g, p))
	is(t, put(t, n, "f", "1"), branch(list("f", "m"), a, leafOf(leaf("f", "1"), g), p))
	is(t, put(t, n, "l", "1"), branch(list("f", "m"), a, leafOf(g, leaf("l", "1")), p))
	is(t, put(t, n, "m", "1"), branch(list("f", "m"), a, g, leafOf(leaf("m", "1"), p)))
	is(t, put(t, n, "z", "1"), branch(list("f", "m"), a, g, leafOf(p, leaf("z", "1"))))
	// Those that are low then: the first one, and the last one.
	is(t, put(t, n, "b", "1"), branch(list("m"), leafOf(leaf("b", "1", "d", text(16)), g), p))
	n = onPage(3, branch(list("f", "z"), a, g, onPage(6, sized(20, "z", "zz"))))
	is(t, put(t, n, "z", ""), branch(list("f"), a, leafOf(g, leafOf(leaf("z", ""), sized(20, "zz")))))
}

// TestPutSplitsBranches asks for an entry that no page on the way has room for.
func TestPutSplitsBranches(t *testing.T) {
	// A root with 4 and five of 20: 104, and 124 with one more. Each leaf has 120.
	n := onPage(2, branch(nil))
	n.Keys = n.Keys[:0]
	for i, letter := range letters('a', 6) {
		key := wide(letter)
		if i == 0 {
			key = ""
		}
		n.Keys = append(n.Keys, key)
		n.Kids = append(n.Kids, onPage(10+i, leafOf(leaf(wide(letter), text(1)), sized(20, letter+"1", letter+"2", letter+"3", letter+"4", letter+"5"))))
	}
	check(t, n, true)
	got := put(t, n, "c6", text(16)) // 140, parted at c3; the root at it too: 4, 20, 20, 6 and 20, 20, 20
	is(t, got, plainPut(n, "c6", text(16)))
	check(t, got, true)
	if levels(got) != 2 || len(got.Kids) != 7 || got.Page != 0 {
		t.Fatalf("got%s", show(got))
	}
	got = put(t, onPage(2, got), "d6", text(16))
	is(t, got, plainPut(got, "d6", text(16)))
	for _, letter := range []string{"a", "b", "e", "f"} {
		got = put(t, got, letter+"6", text(16))
		check(t, got, true)
	}
	if levels(got) != 3 {
		t.Fatalf("got%s", show(got))
	}
}

// onPath holds what becomes of a tree whose nodes are all at pages when a key is put: what is on the way to the key is new, and all else is what it was, but for a neighbour on each level that a low one is merged with.
func onPath(t *testing.T, n, got tree.Node, key, value string) {
	t.Helper()
	was, now := map[int]tree.Node{}, map[int]tree.Node{}
	nodes(n, func(n tree.Node) { was[n.Page] = n })
	nodes(got, func(n tree.Node) { now[n.Page] = n })
	delete(now, 0)
	for page, n := range now {
		is(t, n, was[page])
	}
	steps, end := wayDown(n, key)
	for _, s := range append(steps, step{n: end}) {
		if _, ok := now[s.n.Page]; ok {
			t.Fatalf("the node at page %d is on the way to %q, and isn't new, in%s\nof%s", s.n.Page, key, show(got), show(n))
		}
	}
	if gone := len(was) - len(now); gone < len(steps)+1 || gone > 2*len(steps)+1 {
		t.Fatalf("%d nodes are new, of %d on the way to %q, in%s\nof%s", gone, len(steps)+1, key, show(got), show(n))
	}
	steps, end = wayDown(got, key)
	for _, s := range append(steps, step{n: end}) {
		if s.n.Page != 0 {
			t.Fatalf("page %d is on the way to what was put with %q, in%s", s.n.Page, key, show(got))
		}
	}
	pages := pagesOf(n)
	delete(pages, key)
	if now := pagesOf(got); fmt.Sprint(now) != fmt.Sprint(pages) {
		t.Fatalf("values are in the pages %v, and were in %v, in%s", now, pages, show(got))
	}
	if at := slices.Index(end.Keys, key); at < 0 || end.Vals[at].Data != value || len(end.Vals[at].Pages) != 0 {
		t.Fatalf("%q isn't what was put, in%s", key, show(got))
	}
}

// nodes hands each node of a tree on.
func nodes(n tree.Node, to func(tree.Node)) {
	to(n)
	for _, kid := range n.Kids {
		nodes(kid, to)
	}
}

// pagesOf is the pages of each value that has some.
func pagesOf(n tree.Node) map[string][]int {
	out := map[string][]int{}
	nodes(n, func(n tree.Node) {
		for i, v := range n.Vals {
			if len(v.Pages) > 0 {
				out[n.Keys[i]] = v.Pages
			}
		}
	})
	return out
}

// grower is a tree that grows, beside a plain map.
type grower struct {
	n       tree.Node
	entries map[string]string
	many    int // how many were put
}

// put puts one more, each time against the chapter's words, and sometimes against the map and with the rule on memory.
func (g *grower) put(t *testing.T, key, value string) {
	t.Helper()
	g.many++
	n := g.n
	if g.many%3 > 0 {
		n = laid(n)
	}
	was := n
	var got tree.Node
	if g.many%16 == 1 {
		got = put(t, n, key, value)
	} else {
		n = roomy(n)
		memories := memory(n)
		got = tree.Put(n, key, value)
		if !slices.Equal(memory(n), memories) {
			t.Fatalf("Put of %q changes what it is handed:%s", key, show(was))
		}
	}
	is(t, got, plainPut(was, key, value))
	if !tree.Check(got) || !plainCheck(got) {
		t.Fatalf("Check doesn't accept what Put of %q makes:%s", key, show(got))
	}
	if g.many%3 > 0 {
		onPath(t, was, got, key, value)
	}
	if _, ok := g.entries[key]; !ok {
		if value, ok := tree.Find(was, key); ok {
			t.Fatalf("Find of %q ahead of its Put = %q", key, value)
		}
	}
	g.n, g.entries[key] = got, value
	if found, ok := tree.Find(g.n, key); !ok || found != value {
		t.Fatalf("Find of %q = %q, %v", key, found, ok)
	}
	if g.many%32 == 1 {
		holds(t, g.n, g.entries)
	}
}

func newGrower() *grower { return &grower{n: tree.Empty(), entries: map[string]string{}} }

// grow puts entries until the tree has so many levels.
func grow(t *testing.T, many int, next func(i int) (string, string)) *grower {
	t.Helper()
	g := newGrower()
	for i := 0; levels(g.n) < many; i++ {
		if i == 20000 {
			t.Fatalf("after %d there are %d levels", i, levels(g.n))
		}
		key, value := next(i)
		g.put(t, key, value)
	}
	holds(t, g.n, g.entries)
	return g
}

// digits is a number as a text of so many bytes, in the order of the numbers.
func digits(number, size int) string {
	b := make([]byte, size)
	for i := size - 1; i >= 0; i-- {
		b[i] = byte('0' + number%64)
		number /= 64
	}
	return string(b)
}

// TestPutRising asks for keys of each size, one behind the other.
func TestPutRising(t *testing.T) {
	for size := 1; size <= maxKey; size++ {
		g := newGrower()
		for i := range 60 {
			g.put(t, digits(i, size), text(i%18))
		}
		holds(t, g.n, g.entries)
	}
	grow(t, 4, func(i int) (string, string) { return digits(i, 16), text(1) })
	grow(t, 4, func(i int) (string, string) { return digits(i, 12), text(i % 20) })
}

func TestPutFalling(t *testing.T) {
	for size := 1; size <= maxKey; size++ {
		g := newGrower()
		for i := range 60 {
			g.put(t, digits(63-i, size), text(i%18))
		}
		holds(t, g.n, g.entries)
	}
	grow(t, 4, func(i int) (string, string) { return digits(4095-i, 16), text(1) })
	grow(t, 4, func(i int) (string, string) { return digits(4095-i, 12), text(i % 20) })
}

// valueSizes is sizes of values at the edges.
var valueSizes = []int{0, 1, 2, 15, 16, 17, 118, 119, 120, 399, 400}

// TestPutDrawn asks for keys of 1 to 16 bytes in any order, now and then one that is there.
func TestPutDrawn(t *testing.T) {
	for seed := range uint64(4) {
		draw := dice(seed)
		letter := []int{256, 26, 3, 2}[seed]
		var keys []string
		g := grow(t, 4, func(i int) (string, string) {
			key := make([]byte, 1+draw(maxKey))
			if draw(3) > 0 {
				key = make([]byte, 12+draw(5))
			}
			for k := range key {
				key[k] = byte(draw(letter))
			}
			keys = append(keys, string(key))
			if draw(5) == 0 {
				return keys[draw(len(keys))], text(valueSizes[draw(len(valueSizes))])
			}
			return string(key), text(valueSizes[draw(len(valueSizes))])
		})
		for range 200 {
			g.put(t, keys[draw(len(keys))], text(valueSizes[draw(len(valueSizes))]))
		}
		holds(t, g.n, g.entries)
	}
}

// TestPutInsideOut asks for keys that come from both ends, and from the middle, so that all ends of nodes are met.
func TestPutInsideOut(t *testing.T) {
	both := func(i int) int {
		if i%2 == 0 {
			return i / 2
		}
		return 4095 - i/2
	}
	grow(t, 4, func(i int) (string, string) { return digits(both(i), 16), text(i % 17) })
	grow(t, 4, func(i int) (string, string) { return digits((both(i)+2048)%4096, 9), text(16) })
	grow(t, 4, func(i int) (string, string) { return digits(i*1597%4096, 14), text(i % 30) })
}

// TestPutOver asks for the entries of a tree again, with values of other sizes: its nodes are split and merged by that, and it gets and loses a level.
func TestPutOver(t *testing.T) {
	const many = 106
	g := newGrower()
	for i := range many {
		g.put(t, digits(i, 2), text(16)) // 21 each, at most five in a leaf: too many leaves for a root
	}
	draw := dice(4)
	// With values of no bytes they are 5 each.
	for _, c := range []struct{ size, levels int }{{0, 2}, {16, 3}, {17, 0}, {16, 3}, {0, 2}, {400, 0}, {16, 3}, {1, 0}, {0, 2}} {
		order := make([]int, many)
		for i := range order {
			at := draw(i + 1)
			order[i], order[at] = order[at], i
		}
		for _, i := range order {
			g.put(t, digits(i, 2), text(c.size))
		}
		holds(t, g.n, g.entries)
		if got := levels(g.n); c.levels != 0 && got != c.levels {
			t.Fatalf("%d levels with values of %d bytes, want %d", got, c.size, c.levels)
		}
	}
}

// TestPutOverInRows asks for that from the first key on and from the last one back: low leaves at both ends.
func TestPutOverInRows(t *testing.T) {
	for _, rises := range []bool{true, false} {
		for _, wide := range []int{3, 16} {
			g := newGrower()
			for i := range 90 {
				g.put(t, digits(i, wide), text(16))
			}
			for _, size := range []int{0, 16, 400, 15, 1} {
				for i := range 90 {
					if !rises {
						i = 89 - i
					}
					g.put(t, digits(i, wide), text(size))
				}
			}
			holds(t, g.n, g.entries)
		}
	}
}

// TestPutThroughChains asks in trees that Check doesn't accept: branches of one child, low nodes and great ones on the way.
func TestPutThroughChains(t *testing.T) {
	chain := func(n tree.Node) tree.Node { return onPage(8, branch(nil, n)) }
	is(t, put(t, chain(chain(onPage(9, leaf("b", "1")))), "a", "0"), leaf("a", "0", "b", "1"))
	is(t, put(t, chain(onPage(9, tree.Empty())), "a", "0"), leaf("a", "0"))
	n := branch(list("m"), chain(leaf("a", "1")), chain(stored(7, "m")))
	for _, key := range []string{"a", "b", "m", "z"} {
		for _, n := range []tree.Node{n, laid(n), chain(n), branch(list("x"), n, chain(chain(leaf("y", "2"))))} {
			is(t, put(t, n, key, "5"), plainPut(n, key, "5"))
		}
	}
	// A leaf that is too great by far is parted but once, and its neighbours aren't looked at.
	n = branch(list("x"), sized(20, letters('a', 20)...), leaf("x", "1"))
	is(t, put(t, n, "b", text(16)), plainPut(n, "b", text(16)))
	if got := tree.Put(n, "b", text(16)); len(got.Kids) != 3 || !alike(got.Kids[2], leaf("x", "1")) {
		t.Fatalf("got%s", show(got))
	}
}

// P15.6.

// TestPutEachBetween puts one more key at each place of trees, and each entry again with each size: Find tells it, and all else is as it was.
func TestPutEachBetween(t *testing.T) {
	draw := dice(6)
	for _, size := range []int{2, 9, 16} {
		g := newGrower()
		for range 45 {
			g.put(t, digits(draw(2000)*2, size), text(valueSizes[draw(len(valueSizes))]))
		}
		var keys []string
		for key := range g.entries {
			keys = append(keys, key)
		}
		slices.Sort(keys)
		for _, key := range append(keys, "!", "~") {
			for _, key := range []string{key, key[:len(key)-1] + string(key[len(key)-1]+1)} {
				for _, value := range []int{0, 16, 17, 400} {
					one := &grower{n: g.n, entries: map[string]string{}}
					for k, v := range g.entries {
						one.entries[k] = v
					}
					one.put(t, key, text(value))
					holds(t, one.n, one.entries)
				}
			}
		}
	}
}
