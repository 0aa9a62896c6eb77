package tree_test

import (
	"fmt"
	"slices"
	"strconv"
	"strings"
	"testing"

	"jalousie/api"
	"jalousie/tree"
)

// The signatures and fields that the chapter lists: others don't compile.
var (
	_ func() tree.Node                          = tree.Empty
	_ func(tree.Node) []int                     = tree.Sizes
	_ func(tree.Node, string) int               = tree.Way
	_ func(tree.Node, string) (string, bool)    = tree.Find
	_ func(tree.Node, int) tree.Node            = tree.Mend
	_ func(tree.Node) tree.Node                 = tree.Top
	_ func(tree.Node, string, string) tree.Node = tree.Put
	_ func(tree.Node) bool                      = tree.Check
	_                                           = tree.Val{Data: "", Pages: []int{}}
	_                                           = tree.Node{Page: 0, Leaf: true, Keys: []string{}, Vals: []tree.Val{}, Kids: []tree.Node{}}
)

// The numbers of the chapter, written out: a wrong constant doesn't make a wrong answer right.
const (
	room     = 122 // of a page
	low      = 30  // a sum below this is Low
	inline   = 16  // the bytes of the greatest value that isn't long
	maxKey   = 16
	maxValue = 400
)

// dice produces numbers below one, which look like chance and are the same for one seed.
func dice(seed uint64) func(below int) int {
	return func(below int) int {
		seed = seed*6364136223846793005 + 1442695040888963407
		return int(seed >> 33 % uint64(below))
	}
}

// text is so many letters.
func text(size int) string { return strings.Repeat("x", size) }

// Trees, written out.

// leaf is one of keys, each with its value behind it.
func leaf(entries ...string) tree.Node {
	n := tree.Node{Leaf: true}
	for i := 0; i < len(entries); i += 2 {
		n.Keys = append(n.Keys, entries[i])
		n.Vals = append(n.Vals, tree.Val{Data: entries[i+1]})
	}
	return n
}

// sized is a leaf of keys, whose cells have a size.
func sized(size int, keys ...string) tree.Node {
	n := tree.Node{Leaf: true}
	for _, key := range keys {
		n.Keys = append(n.Keys, key)
		n.Vals = append(n.Vals, tree.Val{Data: text(size - 3 - len(key))})
	}
	return n
}

// branch is one of kids. The keys are those of the kids behind the first one, whose key is empty.
func branch(keys []string, kids ...tree.Node) tree.Node {
	return tree.Node{Keys: slices.Concat([]string{""}, keys), Kids: kids}
}

func list(l ...string) []string { return l }

// onPage is a node at a page.
func onPage(page int, n tree.Node) tree.Node {
	n.Page = page
	return n
}

// alike tells whether two trees are equal. It makes no difference between lists without elements and lists that aren't there.
func alike(a, b tree.Node) bool {
	return a.Page == b.Page && a.Leaf == b.Leaf && slices.Equal(a.Keys, b.Keys) &&
		slices.EqualFunc(a.Vals, b.Vals, func(v, w tree.Val) bool { return v.Data == w.Data && slices.Equal(v.Pages, w.Pages) }) &&
		slices.EqualFunc(a.Kids, b.Kids, alike)
}

// show is a tree in a few lines.
func show(n tree.Node) string {
	var b strings.Builder
	var on func(n tree.Node, indent string)
	on = func(n tree.Node, indent string) {
		fmt.Fprintf(&b, "\n%spage %d leaf %v keys %q", indent, n.Page, n.Leaf, n.Keys)
		for _, v := range n.Vals {
			fmt.Fprintf(&b, " %d:%.8q%v", len(v.Data), v.Data, v.Pages)
		}
		for _, kid := range n.Kids {
			on(kid, indent+"    ")
		}
	}
	on(n, "")
	return b.String()
}

// Memory.

// twin is the same tree in memory of its own, whose lists have no room behind them.
func twin(n tree.Node) tree.Node { return copied(n, 0) }

// roomy is the same tree in memory of its own, whose lists have something in the room behind them.
func roomy(n tree.Node) tree.Node { return copied(n, 2) }

// copied is the same tree, with so many elements in the room behind each list.
func copied(n tree.Node, behind int) tree.Node {
	junk := tree.Node{Page: -7, Keys: []string{"junk"}, Vals: []tree.Val{{Data: "junk", Pages: []int{-8}}}}
	out := tree.Node{Page: n.Page, Leaf: n.Leaf}
	out.Keys = behindIt(n.Keys, behind, "junk")
	var vals []tree.Val
	for _, v := range n.Vals {
		vals = append(vals, tree.Val{Data: v.Data, Pages: behindIt(v.Pages, behind, -9)})
	}
	out.Vals = behindIt(vals, behind, junk.Vals[0])
	var kids []tree.Node
	for _, kid := range n.Kids {
		kids = append(kids, copied(kid, behind))
	}
	out.Kids = behindIt(kids, behind, junk)
	return out
}

// behindIt is a list in memory of its own, with an element so many times in the room behind it.
func behindIt[T any](l []T, behind int, junk T) []T {
	out := make([]T, 0, len(l)+behind)
	out = append(out, l...)
	for i := range behind {
		out[:cap(out)][len(l)+i] = junk
	}
	return out
}

// memory is all that a tree's lists hold, and what is in the room behind them, as texts.
func memory(n tree.Node) []string {
	var out []string
	var on func(n tree.Node)
	on = func(n tree.Node) {
		out = append(out, fmt.Sprint(n.Page, n.Leaf, len(n.Keys), len(n.Vals), len(n.Kids)))
		out = append(out, n.Keys[:cap(n.Keys)]...)
		for _, v := range n.Vals[:cap(n.Vals)] {
			out = append(out, v.Data, fmt.Sprint(len(v.Pages), v.Pages[:cap(v.Pages)]))
		}
		for _, kid := range n.Kids[:cap(n.Kids)] {
			on(kid)
		}
	}
	on(n)
	return out
}

// marks goes through all that the lists of a tree hold, the room behind them too, and hands each place's own number on: as a key or a value to text, as a page to page.
func marks(n *tree.Node, text func(place *string, number int), page func(place *int, number int)) {
	number := 0
	next := func() int {
		number++
		return number
	}
	var on func(n *tree.Node)
	on = func(n *tree.Node) {
		page(&n.Page, next())
		keys, vals, kids := n.Keys[:cap(n.Keys)], n.Vals[:cap(n.Vals)], n.Kids[:cap(n.Kids)]
		for i := range keys {
			text(&keys[i], next())
		}
		for i := range vals {
			text(&vals[i].Data, next())
			pages := vals[i].Pages[:cap(vals[i].Pages)]
			for k := range pages {
				page(&pages[k], next())
			}
		}
		for i := range kids {
			on(&kids[i])
		}
	}
	on(n)
}

// scribble writes a number of its own to each place of a tree's lists. It tells whether each place keeps it: no two lists share one.
func scribble(n *tree.Node) bool {
	marks(n, func(place *string, number int) { *place = strconv.Itoa(number) }, func(place *int, number int) { *place = number })
	kept := true
	marks(n, func(place *string, number int) { kept = kept && *place == strconv.Itoa(number) }, func(place *int, number int) { kept = kept && *place == number })
	return kept
}

// What is asked. Each of these holds the rule on memory for the call: the tree that is handed in stays what it was, with and without room behind its lists, what is told is the same each time, and is memory of its own, list by list.

func changed(t *testing.T, name string, n tree.Node, call func(tree.Node) tree.Node) tree.Node {
	t.Helper()
	for _, c := range []tree.Node{twin(n), roomy(n)} {
		was := memory(c)
		first, second := call(c), call(c)
		if !slices.Equal(memory(c), was) {
			t.Fatalf("%s changes what it is handed:%s", name, show(n))
		}
		kept := twin(second)
		if !alike(first, second) {
			t.Fatalf("%s tells%s\nand then%s\nof%s", name, show(first), show(second), show(n))
		}
		if !scribble(&first) {
			t.Fatalf("two lists that %s tells share memory:%s", name, show(kept))
		}
		if !slices.Equal(memory(c), was) {
			t.Fatalf("what %s tells shares memory with what it is handed:%s", name, show(n))
		}
		scribble(&c)
		if !alike(second, kept) {
			t.Fatalf("what %s tells is in what it was handed, or in what it told ahead:%s", name, show(n))
		}
	}
	return call(twin(n))
}

// asked is for calls that tell no tree.
func asked[T any](t *testing.T, name string, n tree.Node, same func(a, b T) bool, call func(tree.Node) T) T {
	t.Helper()
	first := call(twin(n))
	for _, c := range []tree.Node{twin(n), roomy(n)} {
		was := memory(c)
		for range 2 {
			if again := call(c); !same(again, first) {
				t.Fatalf("%s tells %v and then %v of%s", name, first, again, show(n))
			}
		}
		if !slices.Equal(memory(c), was) {
			t.Fatalf("%s changes what it is handed:%s", name, show(n))
		}
	}
	return first
}

func equal[T comparable](a, b T) bool { return a == b }

func sizes(t *testing.T, n tree.Node, want ...int) {
	t.Helper()
	if got := asked(t, "Sizes", n, slices.Equal, tree.Sizes); !slices.Equal(got, want) {
		t.Fatalf("Sizes = %v, want %v, of%s", got, want, show(n))
	}
}

func way(t *testing.T, n tree.Node, key string, want int) {
	t.Helper()
	got := asked(t, "Way", n, equal, func(n tree.Node) int { return tree.Way(n, key) })
	if got != want {
		t.Fatalf("Way of %q = %d, want %d, in%s", key, got, want, show(n))
	}
}

// found is what Find tells.
type found struct {
	value string
	ok    bool
}

func find(t *testing.T, n tree.Node, key, value string, ok bool) {
	t.Helper()
	got := asked(t, "Find", n, equal, func(n tree.Node) found {
		value, ok := tree.Find(n, key)
		return found{value, ok}
	})
	if got != (found{value, ok}) {
		t.Fatalf("Find of %q = %v, want %q, %v, in%s", key, got, value, ok, show(n))
	}
}

func hasKey(t *testing.T, n tree.Node, key, value string) {
	t.Helper()
	find(t, n, key, value, true)
}

func hasNot(t *testing.T, n tree.Node, keys ...string) {
	t.Helper()
	for _, key := range keys {
		find(t, n, key, "", false)
	}
}

func check(t *testing.T, n tree.Node, want bool) {
	t.Helper()
	if got := asked(t, "Check", n, equal, tree.Check); got != want {
		t.Fatalf("Check = %v, want %v, of%s", got, want, show(n))
	}
}

func mended(t *testing.T, n tree.Node, k int) tree.Node {
	t.Helper()
	return changed(t, fmt.Sprint("Mend of kid ", k), n, func(n tree.Node) tree.Node { return tree.Mend(n, k) })
}

func topped(t *testing.T, n tree.Node) tree.Node {
	t.Helper()
	return changed(t, "Top", n, tree.Top)
}

func put(t *testing.T, n tree.Node, key, value string) tree.Node {
	t.Helper()
	return changed(t, fmt.Sprintf("Put of %q with %d bytes", key, len(value)), n, func(n tree.Node) tree.Node { return tree.Put(n, key, value) })
}

// is holds that a tree is what it must be.
func is(t *testing.T, got, want tree.Node) {
	t.Helper()
	if !alike(got, want) {
		t.Fatalf("got%s\nwant%s", show(got), show(want))
	}
}

// Trees, done as the chapter says it, cell by cell.

// cell is a key with what a node has for it.
type cell struct {
	key string
	val tree.Val
	kid tree.Node
}

func cellsOf(n tree.Node) []cell {
	var out []cell
	for i, key := range n.Keys {
		c := cell{key: key}
		if n.Leaf {
			c.val = n.Vals[i]
		} else {
			c.kid = n.Kids[i]
		}
		out = append(out, c)
	}
	return out
}

// fresh is a node of cells, at no page.
func fresh(isLeaf bool, l []cell) tree.Node {
	out := tree.Node{Leaf: isLeaf}
	for _, c := range l {
		out.Keys = append(out.Keys, c.key)
		if isLeaf {
			out.Vals = append(out.Vals, c.val)
		} else {
			out.Kids = append(out.Kids, c.kid)
		}
	}
	return out
}

func plainSize(isLeaf bool, c cell) int {
	switch {
	case !isLeaf:
		return 4 + len(c.key)
	case len(c.val.Data) > inline:
		return 3 + len(c.key) + 4
	default:
		return 3 + len(c.key) + len(c.val.Data)
	}
}

// plainSum is the sizes of cells, together.
func plainSum(isLeaf bool, l []cell) int {
	sum := 0
	for _, c := range l {
		sum += plainSize(isLeaf, c)
	}
	return sum
}

// plainAt is the first index at which the greater part is the least one; 0: the cells aren't parted.
func plainAt(isLeaf bool, l []cell) int {
	if plainSum(isLeaf, l) <= room {
		return 0
	}
	best, least := 0, 0
	for at := len(l) - 1; at >= 1; at-- {
		greater := max(plainSum(isLeaf, l[:at]), plainSum(isLeaf, l[at:]))
		if best == 0 || greater <= least {
			best, least = at, greater
		}
	}
	return best
}

// plainSplit is the kid of a branch, parted at an index, as two kids.
func plainSplit(c cell, at int) []cell {
	l := cellsOf(c.kid)
	ahead, behind := slices.Clone(l[:at]), slices.Clone(l[at:])
	key := behind[0].key
	if !c.kid.Leaf {
		behind[0].key = ""
	}
	return []cell{{key: c.key, kid: fresh(c.kid.Leaf, ahead)}, {key: key, kid: fresh(c.kid.Leaf, behind)}}
}

// plainJoin is two kids of a branch as one, whatever its size.
func plainJoin(a, b cell) cell {
	behind := cellsOf(b.kid)
	if !b.kid.Leaf {
		behind[0].key = b.key
	}
	return cell{key: a.key, kid: fresh(a.kid.Leaf, slices.Concat(cellsOf(a.kid), behind))}
}

func plainMend(n tree.Node, k int) tree.Node {
	l := cellsOf(n)
	kid := l[k].kid
	if at := plainAt(kid.Leaf, cellsOf(kid)); at > 0 {
		return fresh(false, slices.Concat(l[:k], plainSplit(l[k], at), l[k+1:]))
	}
	if plainSum(kid.Leaf, cellsOf(kid)) >= low || len(l) == 1 {
		return n
	}
	first := k
	if k == len(l)-1 {
		first = k - 1
	}
	one := plainJoin(l[first], l[first+1])
	instead := []cell{one}
	if at := plainAt(one.kid.Leaf, cellsOf(one.kid)); at > 0 {
		instead = plainSplit(one, at)
	}
	return fresh(false, slices.Concat(l[:first], instead, l[first+2:]))
}

func plainTop(n tree.Node) tree.Node {
	if !n.Leaf && len(n.Kids) == 1 {
		return plainTop(n.Kids[0])
	}
	if at := plainAt(n.Leaf, cellsOf(n)); at > 0 {
		return fresh(false, plainSplit(cell{kid: n}, at))
	}
	return n
}

func plainWay(n tree.Node, key string) int {
	k := 0
	for i := range n.Keys {
		if i > 0 && n.Keys[i] <= key {
			k = i
		}
	}
	return k
}

// step is a branch on the way to a leaf, and which of its kids is the next one.
type step struct {
	n tree.Node
	k int
}

// wayDown is the branches on the way to a key, and the leaf at its end.
func wayDown(n tree.Node, key string) ([]step, tree.Node) {
	var steps []step
	for !n.Leaf {
		k := plainWay(n, key)
		steps = append(steps, step{n, k})
		n = n.Kids[k]
	}
	return steps, n
}

func plainPut(n tree.Node, key, value string) tree.Node {
	steps, end := wayDown(n, key)
	var l []cell
	isIn := false
	for _, c := range cellsOf(end) {
		if !isIn && c.key >= key {
			l = append(l, cell{key: key, val: tree.Val{Data: value}})
			isIn = true
		}
		if c.key != key {
			l = append(l, c)
		}
	}
	if !isIn {
		l = append(l, cell{key: key, val: tree.Val{Data: value}})
	}
	now := fresh(true, l)
	for _, s := range slices.Backward(steps) {
		kids := cellsOf(s.n)
		kids[s.k].kid = now
		now = plainMend(fresh(false, kids), s.k)
	}
	return plainTop(now)
}

// These two hold Mend and Top against the chapter's words.
func mendAsChapter(t *testing.T, n tree.Node, k int) {
	t.Helper()
	is(t, mended(t, n, k), plainMend(n, k))
}

func topAsChapter(t *testing.T, n tree.Node) {
	t.Helper()
	is(t, topped(t, n), plainTop(n))
}

// Entries.

// entriesOf is the keys and values of a tree's leaves, from the first leaf on.
func entriesOf(n tree.Node) []found {
	var out []found
	for i, key := range n.Keys {
		if n.Leaf {
			out = append(out, found{key + "=" + n.Vals[i].Data, true})
		} else {
			out = append(out, entriesOf(n.Kids[i])...)
		}
	}
	return out
}

// holds holds that a tree has the entries of a map, and no others.
func holds(t *testing.T, n tree.Node, entries map[string]string) {
	t.Helper()
	var want []found
	for key, value := range entries {
		want = append(want, found{key + "=" + value, true})
	}
	got := entriesOf(n)
	for _, l := range [][]found{got, want} {
		slices.SortFunc(l, func(a, b found) int { return strings.Compare(a.value, b.value) })
	}
	if !slices.Equal(got, want) {
		t.Fatalf("got the entries %v, want %v, of%s", got, want, show(n))
	}
	for key, value := range entries {
		if got, ok := tree.Find(n, key); !ok || got != value {
			t.Fatalf("Find of %q = %q, %v, want %q, in%s", key, got, ok, value, show(n))
		}
	}
}

// levels is how many nodes there are from the root to the first leaf.
func levels(n tree.Node) int {
	if n.Leaf {
		return 1
	}
	return 1 + levels(n.Kids[0])
}

// laid is the same tree, each node at a page of its own, and each long value in pages of its own.
func laid(n tree.Node) tree.Node {
	page := 1
	next := func() int {
		page++
		return page
	}
	var on func(n tree.Node) tree.Node
	on = func(n tree.Node) tree.Node {
		out := twin(n)
		out.Page = next()
		for i, v := range out.Vals {
			if len(v.Data) > inline {
				out.Vals[i].Pages = []int{next(), next()}
			}
		}
		for i, kid := range out.Kids {
			out.Kids[i] = on(kid)
		}
		return out
	}
	return on(n)
}

// P15.1: Empty.

func TestEmpty(t *testing.T) {
	n := tree.Empty()
	if n.Page != 0 || !n.Leaf || len(n.Keys)+len(n.Vals)+len(n.Kids) != 0 {
		t.Fatalf("Empty = %s", show(n))
	}
	sizes(t, n)
	check(t, n, true)
	hasNot(t, n, "", "a", "k", text(16), text(300))
}

// P15.1: Sizes.

func TestSizesKnown(t *testing.T) {
	sizes(t, tree.Node{Leaf: true})
	sizes(t, tree.Node{})
	sizes(t, leaf("k", "v"), 5)
	sizes(t, leaf("", ""), 3)
	sizes(t, leaf("a", "", "b", text(1), "c", text(16), "d", text(17), "e", text(118), "f", text(119), "g", text(120), "h", text(399), "i", text(400)), 4, 5, 20, 8, 8, 8, 8, 8, 8)
	sizes(t, leaf(text(16), text(16), text(15), text(400)), 35, 22)
	sizes(t, leaf("b", "22", "a", "1", "ccc", ""), 6, 5, 6)
	sizes(t, branch(nil, leaf()), 4)
	sizes(t, branch(list("m"), leaf(), leaf()), 4, 5)
	sizes(t, branch(list("a", text(16), "bb"), leaf("a", text(400)), leaf(), branch(nil, leaf()), leaf()), 4, 5, 20, 6)
	sizes(t, tree.Node{Keys: list("abc", "d"), Kids: []tree.Node{leaf(), leaf()}}, 7, 5)
}

// TestSizesOfEach asks for values of each size with keys of each size, with and without pages.
func TestSizesOfEach(t *testing.T) {
	for key := range maxKey + 2 {
		for value := range maxValue + 2 {
			want := 3 + key + value
			if value > 16 {
				want = 3 + key + 4
			}
			n := leaf("a", "b", text(key), text(value))
			sizes(t, n, 5, want)
			n.Vals[1].Pages = []int{3, 5}
			n.Page = 9
			sizes(t, n, 5, want)
		}
		sizes(t, branch(list(text(key)), leaf(), leaf()), 4, 4+key)
		sizes(t, onPage(4, branch(list("a", text(key)), leaf("a", "b"), leaf(), leaf())), 4, 5, 4+key)
	}
	sizes(t, leaf(text(1000), text(1000)), 1007)
	sizes(t, branch(list(text(1000)), leaf(), leaf()), 4, 1004)
}

// P15.1: Way.

func TestWayKnown(t *testing.T) {
	n := branch(list("c", "e", "g"), leaf(), leaf(), leaf(), leaf())
	for _, c := range []struct {
		key  string
		want int
	}{
		{"", 0}, {"\x00", 0}, {"a", 0}, {"b", 0}, {"b\xff\xff", 0}, // ahead of all
		{"c", 1}, {"c\x00", 1}, {"d", 1}, {"d\xff", 1},
		{"e", 2}, {"e\x00", 2}, {"f", 2},
		{"g", 3}, {"g\x00", 3}, {"h", 3}, {"\xff", 3}, {text(300), 3}, // behind all
	} {
		way(t, n, c.key, c.want)
	}
	one := branch(nil, leaf())
	two := branch(list("m"), leaf(), leaf())
	for _, key := range []string{"", "a", "l\xff", "m", "m\x00", "z"} {
		way(t, one, key, 0)
		want := 0
		if key >= "m" {
			want = 1
		}
		way(t, two, key, want)
	}
}

// TestWayOfFirstKey asks where the first key plays no part, for 0 is the answer whatever it is.
func TestWayOfFirstKey(t *testing.T) {
	n := tree.Node{Keys: list("x", "m"), Kids: []tree.Node{leaf(), leaf()}}
	way(t, n, "a", 0)
	way(t, n, "m", 1)
	way(t, n, "z", 1)
	way(t, tree.Node{Keys: list("x"), Kids: []tree.Node{leaf()}}, "a", 0)
	way(t, tree.Node{Keys: list("x"), Kids: []tree.Node{leaf()}}, "z", 0)
}

// TestWayIsLast asks in rows of keys that don't rise: the last one that is less than or equal to the key counts.
func TestWayIsLast(t *testing.T) {
	n := tree.Node{Keys: list("", "m", "c", "c", "x"), Kids: make([]tree.Node, 5)}
	for _, c := range []struct {
		key  string
		want int
	}{{"b", 0}, {"c", 3}, {"d", 3}, {"n", 3}, {"x", 4}} {
		way(t, n, c.key, c.want)
	}
}

// TestWayOfEach asks for each key and those beside it in branches of each number of kids.
func TestWayOfEach(t *testing.T) {
	for many := 1; many <= 24; many++ {
		n := branch(nil, leaf())
		for k := 1; k < many; k++ {
			n.Keys = append(n.Keys, string(rune('a'+k)))
			n.Kids = append(n.Kids, leaf())
		}
		way(t, n, "", 0)
		way(t, n, "a", 0)
		for k := 1; k < many; k++ {
			way(t, n, string(rune('a'+k-1))+"\xff", k-1)
			way(t, n, string(rune('a'+k)), k)
			way(t, n, string(rune('a'+k))+"\x00", k)
		}
		way(t, n, "zz", many-1)
	}
}

// P15.1: Find.

func TestFindInLeaf(t *testing.T) {
	n := leaf("b", "1", "d", "", "f", text(400))
	hasKey(t, n, "b", "1")
	hasKey(t, n, "d", "")
	hasKey(t, n, "f", text(400))
	hasNot(t, n, "", "a", "c", "e", "g", "b\x00", "bb", "B", text(17))
	hasKey(t, leaf("", "of the empty one", "a", "1"), "", "of the empty one")
	n.Vals[2].Pages = []int{4, 5, 6, 7}
	hasKey(t, onPage(3, n), "f", text(400))
}

func TestFindInTwoLevels(t *testing.T) {
	n := branch(list("d", "g"), leaf("a", "1", "c", "3"), leaf("d", "4", "f", "6"), leaf("g", "7", "i", "9"))
	for i, key := range []string{"a", "c", "d", "f", "g", "i"} {
		hasKey(t, n, key, []string{"1", "3", "4", "6", "7", "9"}[i])
	}
	hasNot(t, n, "", "\x00", "b", "cc", "d\x00", "e", "fz", "h", "j", "\xff")
	// The empty key is in the first leaf, wherever else it is.
	n.Kids[0] = leaf("", "0", "a", "1")
	hasKey(t, n, "", "0")
	// What isn't in the leaf at Way isn't found.
	hasNot(t, branch(list("d"), leaf("a", "1", "x", "2"), leaf("b", "3", "d", "4")), "x", "b")
}

func TestFindInThreeLevels(t *testing.T) {
	n := branch(list("i", "q"),
		branch(list("e"), leaf("a", "1", "c", "2"), leaf("e", "3", "g", "4")),
		branch(list("m"), leaf("i", "5", "k", "6"), leaf("m", "7", "o", "8")),
		branch(list("u"), leaf("q", "9", "s", "10"), leaf("u", "11", "w", "12")))
	for i, c := range "acegikmoqsuw" {
		hasKey(t, n, string(c), strconv.Itoa(i+1))
		hasNot(t, n, string(c)+"\x00", string(c+1))
	}
	hasNot(t, n, "", "A", "z", text(20))
}

// TestFindOfEach asks for each key of trees of one level and of more, and for those beside it.
func TestFindOfEach(t *testing.T) {
	for _, many := range []int{1, 5, 30, 300, 2000} {
		n := tree.Empty()
		for i := range many {
			n = tree.Put(n, fmt.Sprintf("k%05d", i), strconv.Itoa(i))
		}
		for i := range many {
			key := fmt.Sprintf("k%05d", i)
			if value, ok := tree.Find(n, key); !ok || value != strconv.Itoa(i) {
				t.Fatalf("Find of %q = %q, %v", key, value, ok)
			}
			for _, beside := range []string{key + "\x00", key[:5], key[:5] + "\xff"} {
				if value, ok := tree.Find(n, beside); ok || value != "" {
					t.Fatalf("Find of %q = %q, %v", beside, value, ok)
				}
			}
		}
		hasNot(t, n, "", "k", "l", "k99999")
	}
}

// What holds for all of it.

// TestNumbersAreThose holds the numbers of the chapter against the given ones.
func TestNumbersAreThose(t *testing.T) {
	if api.Room != room || api.Inline != inline || api.MaxKey != maxKey || api.MaxValue != maxValue {
		t.Fatal("a limit is another one")
	}
}
