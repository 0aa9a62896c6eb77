package prune_test

import (
	"fmt"
	"maps"
	"slices"
	"strconv"
	"strings"
	"testing"

	"jalousie/prune"
	"jalousie/tree"
)

// The signatures that the chapter lists: others don't compile.
var (
	_ func(tree.Node, string) (tree.Node, bool)  = prune.Delete
	_ func(tree.Node, []string) (tree.Node, int) = prune.Without
)

// The numbers of the chapters below, written out: a wrong constant doesn't make a wrong answer right.
const (
	room     = 122 // of a page
	low      = 30  // a sum below this is Low
	inline   = 16  // the bytes of the greatest value that isn't long
	maxKey   = 16
	maxValue = 400
)

// dice produces numbers below one, which look like chance and are the same for one seed.
func dice(seed uint64) func(below int) int {
	return func(below int) int {
		seed = seed*6364136223846793005 + 1442695040888963407
		return int(seed >> 33 % uint64(below))
	}
}

// text is so many letters.
func text(size int) string { return strings.Repeat("x", size) }

// Trees, written out.

// leaf is one of keys, each with its value behind it.
func leaf(entries ...string) tree.Node {
	n := tree.Node{Leaf: true}
	for i := 0; i < len(entries); i += 2 {
		n.Keys = append(n.Keys, entries[i])
		n.Vals = append(n.Vals, tree.Val{Data: entries[i+1]})
	}
	return n
}

// sized is a leaf of keys, whose cells have a size.
func sized(size int, keys ...string) tree.Node {
	n := tree.Node{Leaf: true}
	for _, key := range keys {
		n.Keys = append(n.Keys, key)
		n.Vals = append(n.Vals, tree.Val{Data: text(size - 3 - len(key))})
	}
	return n
}

// branch is one of kids. The keys are those of the kids behind the first one, whose key is empty.
func branch(keys []string, kids ...tree.Node) tree.Node {
	return tree.Node{Keys: slices.Concat([]string{""}, keys), Kids: kids}
}

func list(l ...string) []string { return l }

// onPage is a node at a page.
func onPage(page int, n tree.Node) tree.Node {
	n.Page = page
	return n
}

// alike tells whether two trees are equal. It makes no difference between lists without elements and lists that aren't there.
func alike(a, b tree.Node) bool {
	return a.Page == b.Page && a.Leaf == b.Leaf && slices.Equal(a.Keys, b.Keys) &&
		slices.EqualFunc(a.Vals, b.Vals, func(v, w tree.Val) bool { return v.Data == w.Data && slices.Equal(v.Pages, w.Pages) }) &&
		slices.EqualFunc(a.Kids, b.Kids, alike)
}

// show is a tree in a few lines.
func show(n tree.Node) string {
	var b strings.Builder
	var on func(n tree.Node, indent string)
	on = func(n tree.Node, indent string) {
		fmt.Fprintf(&b, "\n%spage %d leaf %v keys %q", indent, n.Page, n.Leaf, n.Keys)
		for _, v := range n.Vals {
			fmt.Fprintf(&b, " %d:%.8q%v", len(v.Data), v.Data, v.Pages)
		}
		for _, kid := range n.Kids {
			on(kid, indent+"    ")
		}
	}
	on(n, "")
	return b.String()
}

// Memory.

// twin is the same tree in memory of its own, whose lists have no room behind them.
func twin(n tree.Node) tree.Node { return copied(n, 0) }

// roomy is the same tree in memory of its own, whose lists have something in the room behind them.
func roomy(n tree.Node) tree.Node { return copied(n, 2) }

// copied is the same tree, with so many elements in the room behind each list.
func copied(n tree.Node, behind int) tree.Node {
	junk := tree.Node{Page: -7, Keys: []string{"junk"}, Vals: []tree.Val{{Data: "junk", Pages: []int{-8}}}}
	out := tree.Node{Page: n.Page, Leaf: n.Leaf}
	out.Keys = behindIt(n.Keys, behind, "junk")
	var vals []tree.Val
	for _, v := range n.Vals {
		vals = append(vals, tree.Val{Data: v.Data, Pages: behindIt(v.Pages, behind, -9)})
	}
	out.Vals = behindIt(vals, behind, junk.Vals[0])
	var kids []tree.Node
	for _, kid := range n.Kids {
		kids = append(kids, copied(kid, behind))
	}
	out.Kids = behindIt(kids, behind, junk)
	return out
}

// behindIt is a list in memory of its own, with an element so many times in the room behind it.
func behindIt[T any](l []T, behind int, junk T) []T {
	out := make([]T, 0, len(l)+behind)
	out = append(out, l...)
	for i := range behind {
		out[:cap(out)][len(l)+i] = junk
	}
	return out
}

// memory is all that a tree's lists hold, and what is in the room behind them, as texts.
func memory(n tree.Node) []string {
	var out []string
	var on func(n tree.Node)
	on = func(n tree.Node) {
		out = append(out, fmt.Sprint(n.Page, n.Leaf, len(n.Keys), len(n.Vals), len(n.Kids)))
		out = append(out, n.Keys[:cap(n.Keys)]...)
		for _, v := range n.Vals[:cap(n.Vals)] {
			out = append(out, v.Data, fmt.Sprint(len(v.Pages), v.Pages[:cap(v.Pages)]))
		}
		for _, kid := range n.Kids[:cap(n.Kids)] {
			on(kid)
		}
	}
	on(n)
	return out
}

// marks goes through all that the lists of a tree hold, the room behind them too, and hands each place's own number on: as a key or a value to text, as a page to page.
func marks(n *tree.Node, text func(place *string, number int), page func(place *int, number int)) {
	number := 0
	next := func() int {
		number++
		return number
	}
	var on func(n *tree.Node)
	on = func(n *tree.Node) {
		page(&n.Page, next())
		keys, vals, kids := n.Keys[:cap(n.Keys)], n.Vals[:cap(n.Vals)], n.Kids[:cap(n.Kids)]
		for i := range keys {
			text(&keys[i], next())
		}
		for i := range vals {
			text(&vals[i].Data, next())
			pages := vals[i].Pages[:cap(vals[i].Pages)]
			for k := range pages {
				page(&pages[k], next())
			}
		}
		for i := range kids {
			on(&kids[i])
		}
	}
	on(n)
}

// scribble writes a number of its own to each place of a tree's lists. It tells whether each place keeps it: no two lists share one.
func scribble(n *tree.Node) bool {
	marks(n, func(place *string, number int) { *place = strconv.Itoa(number) }, func(place *int, number int) { *place = number })
	kept := true
	marks(n, func(place *string, number int) { kept = kept && *place == strconv.Itoa(number) }, func(place *int, number int) { kept = kept && *place == number })
	return kept
}

// What is asked. Each of these holds the rule on memory for the call: the tree that is handed in stays what it was, with and without room behind its lists, what is told is the same each time, and is memory of its own, list by list.

func changed(t *testing.T, name string, n tree.Node, call func(tree.Node) tree.Node) tree.Node {
	t.Helper()
	for _, c := range []tree.Node{twin(n), roomy(n)} {
		was := memory(c)
		first, second := call(c), call(c)
		if !slices.Equal(memory(c), was) {
			t.Fatalf("%s changes what it is handed:%s", name, show(n))
		}
		kept := twin(second)
		if !alike(first, second) {
			t.Fatalf("%s tells%s\nand then%s\nof%s", name, show(first), show(second), show(n))
		}
		if !scribble(&first) {
			t.Fatalf("two lists that %s tells share memory:%s", name, show(kept))
		}
		if !slices.Equal(memory(c), was) {
			t.Fatalf("what %s tells shares memory with what it is handed:%s", name, show(n))
		}
		scribble(&c)
		if !alike(second, kept) {
			t.Fatalf("what %s tells is in what it was handed, or in what it told ahead:%s", name, show(n))
		}
	}
	return call(twin(n))
}

// remove is Delete, with the rule on memory.
func remove(t *testing.T, n tree.Node, key string) (tree.Node, bool) {
	t.Helper()
	_, ok := prune.Delete(twin(n), key)
	got := changed(t, fmt.Sprintf("Delete of %q", key), n, func(n tree.Node) tree.Node {
		got, again := prune.Delete(n, key)
		if again != ok {
			t.Fatalf("Delete of %q tells %v and then %v of%s", key, ok, again, show(n))
		}
		return got
	})
	return got, ok
}

// without is Without, with the rule on memory; the keys that are handed in stay what they were too.
func without(t *testing.T, n tree.Node, keys []string) (tree.Node, int) {
	t.Helper()
	_, many := prune.Without(twin(n), slices.Clone(keys))
	got := changed(t, fmt.Sprintf("Without of %q", keys), n, func(n tree.Node) tree.Node {
		l := behindIt(keys, 3, "a")
		got, again := prune.Without(n, l)
		if again != many {
			t.Fatalf("Without of %q tells %d and then %d of%s", keys, many, again, show(n))
		}
		if !slices.Equal(l, keys) || !slices.Equal(l[:cap(l)], slices.Concat(keys, list("a", "a", "a"))) {
			t.Fatalf("Without changes the keys %q to %q", keys, l[:cap(l)])
		}
		return got
	})
	return got, many
}

// is holds that a tree is what it must be.
func is(t *testing.T, got, want tree.Node) {
	t.Helper()
	if !alike(got, want) {
		t.Fatalf("got%s\nwant%s", show(got), show(want))
	}
}

// gone holds that a key is deleted, and what is left.
func gone(t *testing.T, n tree.Node, key string, want tree.Node) {
	t.Helper()
	got, ok := remove(t, n, key)
	if !ok {
		t.Fatalf("Delete of %q = false, of%s", key, show(n))
	}
	is(t, got, want)
	is(t, got, plainDelete(n, key, nil))
}

// hasNone holds that a tree comes back as it is, for none of these keys is there.
func hasNone(t *testing.T, n tree.Node, keys ...string) {
	t.Helper()
	for _, key := range keys {
		got, ok := remove(t, n, key)
		if ok {
			t.Fatalf("Delete of %q = true, of%s", key, show(n))
		}
		is(t, got, n)
	}
}

// accepted holds that Check accepts a tree.
func accepted(t *testing.T, n tree.Node) {
	t.Helper()
	if !tree.Check(n) {
		t.Fatalf("Check doesn't accept%s", show(n))
	}
}

// Trees, done as the chapter says it, cell by cell.

// cell is a key with what a node has for it.
type cell struct {
	key string
	val tree.Val
	kid tree.Node
}

func cellsOf(n tree.Node) []cell {
	var out []cell
	for i, key := range n.Keys {
		c := cell{key: key}
		if n.Leaf {
			c.val = n.Vals[i]
		} else {
			c.kid = n.Kids[i]
		}
		out = append(out, c)
	}
	return out
}

// fresh is a node of cells, at no page.
func fresh(isLeaf bool, l []cell) tree.Node {
	out := tree.Node{Leaf: isLeaf}
	for _, c := range l {
		out.Keys = append(out.Keys, c.key)
		if isLeaf {
			out.Vals = append(out.Vals, c.val)
		} else {
			out.Kids = append(out.Kids, c.kid)
		}
	}
	return out
}

func plainSize(isLeaf bool, c cell) int {
	switch {
	case !isLeaf:
		return 4 + len(c.key)
	case len(c.val.Data) > inline:
		return 3 + len(c.key) + 4
	default:
		return 3 + len(c.key) + len(c.val.Data)
	}
}

// plainSum is the sizes of cells, together.
func plainSum(isLeaf bool, l []cell) int {
	sum := 0
	for _, c := range l {
		sum += plainSize(isLeaf, c)
	}
	return sum
}

// plainAt is the first index at which the greater part is the least one; 0: the cells aren't parted.
func plainAt(isLeaf bool, l []cell) int {
	if plainSum(isLeaf, l) <= room {
		return 0
	}
	best, least := 0, 0
	for at := len(l) - 1; at >= 1; at-- {
		greater := max(plainSum(isLeaf, l[:at]), plainSum(isLeaf, l[at:]))
		if best == 0 || greater <= least {
			best, least = at, greater
		}
	}
	return best
}

// plainSplit is the kid of a branch, parted at an index, as two kids.
func plainSplit(c cell, at int) []cell {
	l := cellsOf(c.kid)
	ahead, behind := slices.Clone(l[:at]), slices.Clone(l[at:])
	key := behind[0].key
	if !c.kid.Leaf {
		behind[0].key = ""
	}
	return []cell{{key: c.key, kid: fresh(c.kid.Leaf, ahead)}, {key: key, kid: fresh(c.kid.Leaf, behind)}}
}

// plainJoin is two kids of a branch as one, whatever its size.
func plainJoin(a, b cell) cell {
	behind := cellsOf(b.kid)
	if !b.kid.Leaf {
		behind[0].key = b.key
	}
	return cell{key: a.key, kid: fresh(a.kid.Leaf, slices.Concat(cellsOf(a.kid), behind))}
}

// seen counts what happened on the way up, by names.
type seen map[string]int

func (s seen) add(name string) {
	if s != nil {
		s[name]++
	}
}

// kind is what a node is called in seen.
func kind(n tree.Node) string {
	if n.Leaf {
		return "leaf"
	}
	return "branch"
}

func plainMend(n tree.Node, k int, s seen) tree.Node {
	l := cellsOf(n)
	kid := l[k].kid
	if at := plainAt(kid.Leaf, cellsOf(kid)); at > 0 {
		s.add(kind(kid) + " too great")
		return fresh(false, slices.Concat(l[:k], plainSplit(l[k], at), l[k+1:]))
	}
	if plainSum(kid.Leaf, cellsOf(kid)) >= low || len(l) == 1 {
		s.add(kind(kid) + " great enough")
		return n
	}
	first, with := k, "next"
	if k == len(l)-1 {
		first, with = k-1, "ahead"
	}
	one := plainJoin(l[first], l[first+1])
	instead := []cell{one}
	if at := plainAt(one.kid.Leaf, cellsOf(one.kid)); at > 0 {
		s.add(kind(kid) + " split again, with " + with)
		instead = plainSplit(one, at)
	} else {
		s.add(kind(kid) + " merged with " + with)
	}
	return fresh(false, slices.Concat(l[:first], instead, l[first+2:]))
}

func plainTop(n tree.Node, s seen) tree.Node {
	if !n.Leaf && len(n.Kids) == 1 {
		s.add("root falls away, and leaves a " + kind(n.Kids[0]))
		return plainTop(n.Kids[0], s)
	}
	if at := plainAt(n.Leaf, cellsOf(n)); at > 0 {
		s.add("root split")
		return fresh(false, plainSplit(cell{kid: n}, at))
	}
	return n
}

func plainWay(n tree.Node, key string) int {
	k := 0
	for i := range n.Keys {
		if i > 0 && n.Keys[i] <= key {
			k = i
		}
	}
	return k
}

// step is a branch on the way to a leaf, and which of its kids is the next one.
type step struct {
	n tree.Node
	k int
}

// wayDown is the branches on the way to a key, and the leaf at its end.
func wayDown(n tree.Node, key string) ([]step, tree.Node) {
	var steps []step
	for !n.Leaf {
		k := plainWay(n, key)
		steps = append(steps, step{n, k})
		n = n.Kids[k]
	}
	return steps, n
}

// plainDelete is a tree without a key; the tree itself, if it isn't there.
func plainDelete(n tree.Node, key string, s seen) tree.Node {
	steps, end := wayDown(n, key)
	if !slices.Contains(end.Keys, key) {
		return n
	}
	now := fresh(true, slices.DeleteFunc(cellsOf(end), func(c cell) bool { return c.key == key }))
	for _, at := range slices.Backward(steps) {
		kids := cellsOf(at.n)
		kids[at.k].kid = now
		now = plainMend(fresh(false, kids), at.k, s)
	}
	return plainTop(now, s)
}

// Entries.

// entriesOf is the keys and values of a tree's leaves, from the first leaf on.
func entriesOf(n tree.Node) []string {
	var out []string
	for i, key := range n.Keys {
		if n.Leaf {
			out = append(out, key+"="+n.Vals[i].Data)
		} else {
			out = append(out, entriesOf(n.Kids[i])...)
		}
	}
	return out
}

// keysOf is the keys of a tree's leaves, from the first leaf on.
func keysOf(n tree.Node) []string {
	if n.Leaf {
		return slices.Clone(n.Keys)
	}
	var out []string
	for _, kid := range n.Kids {
		out = append(out, keysOf(kid)...)
	}
	return out
}

// holds holds that a tree has the entries of a map, in the order of their keys, and no others.
func holds(t *testing.T, n tree.Node, entries map[string]string) {
	t.Helper()
	var want []string
	for _, key := range slices.Sorted(maps.Keys(entries)) {
		want = append(want, key+"="+entries[key])
	}
	if got := entriesOf(n); !slices.Equal(got, want) {
		t.Fatalf("got the entries %q, want %q, of%s", got, want, show(n))
	}
	for key, value := range entries {
		if got, ok := tree.Find(n, key); !ok || got != value {
			t.Fatalf("Find of %q = %q, %v, want %q, in%s", key, got, ok, value, show(n))
		}
	}
}

// levels is how many nodes there are from the root to the first leaf.
func levels(n tree.Node) int {
	if n.Leaf {
		return 1
	}
	return 1 + levels(n.Kids[0])
}

// laid is the same tree, each node at a page of its own, and each long value in pages of its own.
func laid(n tree.Node) tree.Node {
	page := 1
	next := func() int {
		page++
		return page
	}
	var on func(n tree.Node) tree.Node
	on = func(n tree.Node) tree.Node {
		out := twin(n)
		out.Page = next()
		for i, v := range out.Vals {
			if len(v.Data) > inline {
				out.Vals[i].Pages = []int{next(), next()}
			}
		}
		for i, kid := range out.Kids {
			out.Kids[i] = on(kid)
		}
		return out
	}
	return on(n)
}

// nodes hands each node of a tree on.
func nodes(n tree.Node, to func(tree.Node)) {
	to(n)
	for _, kid := range n.Kids {
		nodes(kid, to)
	}
}

// pagesOf is the pages of each value that has some.
func pagesOf(n tree.Node) map[string][]int {
	out := map[string][]int{}
	nodes(n, func(n tree.Node) {
		for i, v := range n.Vals {
			if len(v.Pages) > 0 {
				out[n.Keys[i]] = v.Pages
			}
		}
	})
	return out
}

// onPath holds what becomes of a tree whose nodes are all at pages when a key is deleted: what is on the way to the key is new, and all else is what it was, but for a neighbour on each level that a low one is merged with.
func onPath(t *testing.T, n, got tree.Node, key string) {
	t.Helper()
	was, now := map[int]tree.Node{}, map[int]tree.Node{}
	nodes(n, func(n tree.Node) { was[n.Page] = n })
	nodes(got, func(n tree.Node) { now[n.Page] = n })
	delete(now, 0)
	for page, n := range now {
		is(t, n, was[page])
	}
	steps, end := wayDown(n, key)
	for _, s := range append(steps, step{n: end}) {
		if _, ok := now[s.n.Page]; ok {
			t.Fatalf("the node at page %d is on the way to %q, and isn't new, in%s\nof%s", s.n.Page, key, show(got), show(n))
		}
	}
	if gone := len(was) - len(now); gone < len(steps)+1 || gone > 2*len(steps)+1 {
		t.Fatalf("%d nodes are new or gone, of %d on the way to %q, in%s\nof%s", gone, len(steps)+1, key, show(got), show(n))
	}
	steps, end = wayDown(got, key)
	for _, s := range append(steps, step{n: end}) {
		if s.n.Page != 0 {
			t.Fatalf("page %d is on the way to where %q was, in%s", s.n.Page, key, show(got))
		}
	}
	pages := pagesOf(n)
	delete(pages, key)
	if now := pagesOf(got); !maps.EqualFunc(now, pages, slices.Equal) {
		t.Fatalf("values are in the pages %v, and were in %v, in%s", now, pages, show(got))
	}
}

// digits is a number as a text of so many bytes, in the order of the numbers.
func digits(number, size int) string {
	b := make([]byte, size)
	for i := size - 1; i >= 0; i-- {
		b[i] = byte('0' + number%64)
		number /= 64
	}
	return string(b)
}

// letters is so many keys of one letter, from one on.
func letters(from rune, many int) []string {
	var out []string
	for i := range many {
		out = append(out, string(from+rune(i)))
	}
	return out
}

// wide is a key of 16 bytes that begins with a letter.
func wide(letter string) string { return letter + strings.Repeat("-", 15) }

// wides is so many of them, from a letter on.
func wides(from rune, many int) []string {
	var out []string
	for _, letter := range letters(from, many) {
		out = append(out, wide(letter))
	}
	return out
}

// forty is a leaf of two entries of 20.
func forty(letter string) tree.Node { return sized(20, letter+"1", letter+"2") }

// thirtyTwo is a branch of three leaves, for 4 and two of 14. The keys of a leaf begin with a letter, that of a kid with the one ahead of it.
func thirtyTwo(a, b, bKey, c, cKey string) tree.Node {
	return branch(list(bKey+text(9), cKey+text(9)), forty(a), forty(b), forty(c))
}

// threeLevels is a tree whose branches are low as soon as they have a kid less.
func threeLevels() tree.Node {
	return branch(list("i", "q"), thirtyTwo("a", "d", "c", "g", "f"), thirtyTwo("j", "m", "l", "p", "o"), thirtyTwo("q", "t", "s", "w", "v"))
}

// valueSizes is sizes of values at the edges.
var valueSizes = []int{0, 1, 2, 15, 16, 17, 118, 119, 120, 399, 400}
