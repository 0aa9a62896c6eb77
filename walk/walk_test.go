package walk_test

import (
	"fmt"
	"slices"
	"strings"
	"testing"

	"jalousie/prune"
	"jalousie/tree"
	"jalousie/walk"
)

// The signatures that the chapter lists: others don't compile.
var (
	_ func(tree.Node, string) *walk.Cursor      = walk.Seek
	_ func(*walk.Cursor) (string, string, bool) = (*walk.Cursor).Next
	_ func(*walk.Cursor) (string, bool)         = (*walk.Cursor).Peek
	_ func(*walk.Cursor) int                    = (*walk.Cursor).Depth
	_ func(tree.Node) int                       = walk.Count
)

// dice produces numbers below one, which look like chance and are the same for one seed.
func dice(seed uint64) func(below int) int {
	return func(below int) int {
		seed = seed*6364136223846793005 + 1442695040888963407
		return int(seed >> 33 % uint64(below))
	}
}

// text is so many letters.
func text(size int) string { return strings.Repeat("x", size) }

func list(l ...string) []string { return l }

// Trees, written out.

// leaf is one of keys, each with its value behind it.
func leaf(entries ...string) tree.Node {
	n := tree.Node{Leaf: true}
	for i := 0; i < len(entries); i += 2 {
		n.Keys = append(n.Keys, entries[i])
		n.Vals = append(n.Vals, tree.Val{Data: entries[i+1]})
	}
	return n
}

// of is a leaf of keys, each with a value of its own: two such entries are enough for a page.
func of(keys ...string) tree.Node {
	n := tree.Node{Leaf: true}
	for _, key := range keys {
		n.Keys = append(n.Keys, key)
		n.Vals = append(n.Vals, tree.Val{Data: valueOf(key)})
	}
	return n
}

// valueOf is the value that a key has in such a leaf.
func valueOf(key string) string { return "the value of " + key }

// branch is one of kids. The keys are those of the kids behind the first one, whose key is empty.
func branch(keys []string, kids ...tree.Node) tree.Node {
	return tree.Node{Keys: slices.Concat([]string{""}, keys), Kids: kids}
}

// wide is a key of 16 bytes that begins with another one: two such keys are enough for a branch's page.
func wide(key string) string { return key + strings.Repeat("-", 16-len(key)) }

func oneLevel() tree.Node { return of("b", "d", "f") }

// twoLevels is a tree in which a branch holds the keys "g" and "p", which no leaf has.
func twoLevels() tree.Node {
	return branch(list("g", "k", "p"), of("b", "d", "f"), of("h", "i", "j"), of("k", "l"), of("q", "s", "u"))
}

// under is a branch of three leaves, whose keys begin with a letter and a number, and whose own ones but the first are wide.
func under(letter string) tree.Node {
	return branch(list(wide(letter+"2"), wide(letter+"5")), of(letter+"0", letter+"1"), of(letter+"3", letter+"4"), of(letter+"6", letter+"8"))
}

// threeLevels is a tree whose root holds the key "b", and "e0", which a leaf has too.
func threeLevels() tree.Node { return branch(list("b", "e0"), under("a"), under("c"), under("e")) }

// fourLevels is a tree with a branch like that of twoLevels a level further down.
func fourLevels() tree.Node {
	return branch(list("i"), branch(list(wide("b"), wide("d")), under("a"), under("c"), under("e")), branch(list(wide("l"), wide("n")), under("j"), under("m"), under("o")))
}

// written is these trees, each behind one with fewer levels.
func written() []tree.Node {
	return []tree.Node{tree.Empty(), oneLevel(), twoLevels(), threeLevels(), fourLevels()}
}

// TestWrittenTrees holds that the trees of these tests may be, and have as many levels as their names say: the promises are for such trees alone.
func TestWrittenTrees(t *testing.T) {
	for i, n := range written() {
		accepted(t, n)
		if got := levels(n); i > 0 && got != i {
			t.Fatalf("%d levels instead of %d:%s", got, i, show(n))
		}
	}
	for _, n := range grownTrees(t) {
		accepted(t, n)
	}
}

// accepted holds that Check accepts a tree.
func accepted(t *testing.T, n tree.Node) {
	t.Helper()
	if !tree.Check(n) {
		t.Fatalf("Check doesn't accept%s", show(n))
	}
}

// show is a tree in a few lines.
func show(n tree.Node) string {
	var b strings.Builder
	var on func(n tree.Node, indent string)
	on = func(n tree.Node, indent string) {
		fmt.Fprintf(&b, "\n%spage %d leaf %v keys %q", indent, n.Page, n.Leaf, n.Keys)
		for _, v := range n.Vals {
			fmt.Fprintf(&b, " %d:%.8q%v", len(v.Data), v.Data, v.Pages)
		}
		for _, kid := range n.Kids {
			on(kid, indent+"    ")
		}
	}
	on(n, "")
	return b.String()
}

// levels is how many nodes there are from the root to the first leaf.
func levels(n tree.Node) int {
	if n.Leaf {
		return 1
	}
	return 1 + levels(n.Kids[0])
}

// entry is a key with a value.
type entry struct{ key, value string }

// entriesOf is the entries of a tree's leaves, from the first leaf on.
func entriesOf(n tree.Node) []entry {
	var out []entry
	for i, key := range n.Keys {
		if n.Leaf {
			out = append(out, entry{key, n.Vals[i].Data})
		} else {
			out = append(out, entriesOf(n.Kids[i])...)
		}
	}
	return out
}

// from is those of some entries whose key is at least one.
func from(l []entry, key string) []entry {
	return slices.DeleteFunc(slices.Clone(l), func(e entry) bool { return e.key < key })
}

// ofKeys is keys with the values that they have in leaves made by of.
func ofKeys(keys ...string) []entry {
	var out []entry
	for _, key := range keys {
		out = append(out, entry{key, valueOf(key)})
	}
	return out
}

// branchKeys is the keys that the branches of a tree hold, without the empty ones.
func branchKeys(n tree.Node) []string {
	if n.Leaf {
		return nil
	}
	out := slices.Clone(n.Keys[1:])
	for _, kid := range n.Kids {
		out = append(out, branchKeys(kid)...)
	}
	return out
}

// Memory.

// roomy is the same tree in memory of its own, whose lists have so many elements in the room behind them.
func roomy(n tree.Node, behind int) tree.Node {
	junk := tree.Node{Page: -7, Leaf: true, Keys: list("junk"), Vals: []tree.Val{{Data: "junk", Pages: []int{-8}}}}
	var vals []tree.Val
	for _, v := range n.Vals {
		vals = append(vals, tree.Val{Data: v.Data, Pages: behindIt(v.Pages, behind, -9)})
	}
	var kids []tree.Node
	for _, kid := range n.Kids {
		kids = append(kids, roomy(kid, behind))
	}
	return tree.Node{Page: n.Page, Leaf: n.Leaf, Keys: behindIt(n.Keys, behind, "junk"), Vals: behindIt(vals, behind, junk.Vals[0]), Kids: behindIt(kids, behind, junk)}
}

// behindIt is a list in memory of its own, with an element so many times in the room behind it.
func behindIt[T any](l []T, behind int, junk T) []T {
	out := append(make([]T, 0, len(l)+behind), l...)
	for i := range behind {
		out[:cap(out)][len(l)+i] = junk
	}
	return out
}

// memory is all that a tree's lists hold, and what is in the room behind them, as texts.
func memory(n tree.Node) []string {
	out := list(fmt.Sprint(n.Page, n.Leaf, len(n.Keys), len(n.Vals), len(n.Kids)))
	out = append(out, n.Keys[:cap(n.Keys)]...)
	for _, v := range n.Vals[:cap(n.Vals)] {
		out = append(out, v.Data, fmt.Sprint(len(v.Pages), v.Pages[:cap(v.Pages)]))
	}
	for _, kid := range n.Kids[:cap(n.Kids)] {
		out = append(out, memory(kid)...)
	}
	return out
}

// scribble writes over all that a tree's lists hold.
func scribble(n tree.Node) {
	for i := range n.Keys {
		n.Keys[i] = "~scribbled"
	}
	for i := range n.Vals {
		for k := range n.Vals[i].Pages {
			n.Vals[i].Pages[k] = -3
		}
		n.Vals[i] = tree.Val{Data: "scribbled", Pages: []int{-4}}
	}
	for i := range n.Kids {
		scribble(n.Kids[i])
		n.Kids[i] = leaf("~a", "scribbled", "~b", "scribbled", "~c", "scribbled")
	}
}

// What is asked.

// isAt holds that a cursor of a tree of so many levels is ahead of the first one of some entries, or behind all of them; asked more than once, it stays there.
func isAt(t *testing.T, c *walk.Cursor, l []entry, depth int) {
	t.Helper()
	key, there := "", len(l) > 0
	if there {
		key = l[0].key
	} else {
		depth = 0
	}
	for range 2 {
		if got, ok := c.Peek(); got != key || ok != there {
			t.Fatalf("Peek = %q, %v, want %q, %v", got, ok, key, there)
		}
		if got := c.Depth(); got != depth {
			t.Fatalf("Depth = %d, want %d, at %q (%v)", got, depth, key, there)
		}
	}
}

// goesOn holds what a call of Next tells, and is those entries that are left behind it.
func goesOn(t *testing.T, c *walk.Cursor, l []entry) []entry {
	t.Helper()
	key, value, ok := c.Next()
	if len(l) == 0 {
		if ok || key != "" || value != "" {
			t.Fatalf("Next = %q, %q, %v behind the end", key, value, ok)
		}
		return nil
	}
	if !ok || key != l[0].key || value != l[0].value {
		t.Fatalf("Next = %q, %q, %v, want %q, %q", key, value, ok, l[0].key, l[0].value)
	}
	return l[1:]
}

// tells holds that a cursor of a tree of so many levels tells these entries, and then nothing, however often it is asked.
func tells(t *testing.T, c *walk.Cursor, l []entry, depth int) {
	t.Helper()
	for len(l) > 0 {
		isAt(t, c, l, depth)
		l = goesOn(t, c, l)
	}
	for range 3 {
		isAt(t, c, nil, depth)
		goesOn(t, c, nil)
	}
}

// seeks holds that a cursor of a tree from a key on tells these entries. The tree that is handed in stays what it was, and may be written over behind Seek.
func seeks(t *testing.T, n tree.Node, key string, l []entry) {
	t.Helper()
	for _, behind := range []int{0, 2} {
		handed := roomy(n, behind)
		was := memory(handed)
		tells(t, walk.Seek(handed, key), l, levels(n))
		if !slices.Equal(memory(handed), was) {
			t.Fatalf("Seek of %q, or a cursor, changes the tree that is handed in:%s", key, show(n))
		}
		c := walk.Seek(handed, key)
		scribble(handed)
		tells(t, c, l, levels(n))
	}
}

// counts holds what Count tells, and that the tree that is handed in stays what it was.
func counts(t *testing.T, n tree.Node, want int) {
	t.Helper()
	for _, behind := range []int{0, 2} {
		handed := roomy(n, behind)
		was := memory(handed)
		for range 2 {
			if got := walk.Count(handed); got != want {
				t.Fatalf("Count = %d, want %d, of%s", got, want, show(n))
			}
		}
		if !slices.Equal(memory(handed), was) {
			t.Fatalf("Count changes the tree that is handed in:%s", show(n))
		}
	}
}

// P17.1, by known cases.

func TestExample(t *testing.T) {
	n := tree.Put(tree.Put(tree.Empty(), "a", "1"), "c", "2")
	c := walk.Seek(n, "b")
	if key, value, ok := c.Next(); key != "c" || value != "2" || !ok {
		t.Fatal(key, value, ok)
	}
	if key, value, ok := c.Next(); key != "" || value != "" || ok {
		t.Fatal(key, value, ok)
	}
}

func TestSeekInEmpty(t *testing.T) {
	for _, key := range list("", "\x00", "a", "\xff", text(16), text(500)) {
		if walk.Seek(tree.Empty(), key) == nil {
			t.Fatal("Seek tells no cursor")
		}
		seeks(t, tree.Empty(), key, nil)
		seeks(t, deleted(t, leaf("k", "v"), "k"), key, nil)
	}
}

// deleted is a tree without a key that is there.
func deleted(t *testing.T, n tree.Node, key string) tree.Node {
	t.Helper()
	out, ok := prune.Delete(n, key)
	if !ok {
		t.Fatalf("Delete of %q = false, of%s", key, show(n))
	}
	return out
}

// seekCase is a key, and the keys that a cursor tells from it on.
type seekCase struct {
	key  string
	want []string
}

func TestSeekInLeaf(t *testing.T) {
	for _, c := range []seekCase{
		{"", list("b", "d", "f")}, {"\x00", list("b", "d", "f")}, {"a", list("b", "d", "f")}, {"a\xff", list("b", "d", "f")}, // ahead of all
		{"b", list("b", "d", "f")}, {"b\x00", list("d", "f")}, {"c", list("d", "f")},
		{"d", list("d", "f")}, {"d\x00", list("f")}, {"e", list("f")}, {"e" + text(300), list("f")},
		{"f", list("f")},
		{"f\x00", nil}, {"fa", nil}, {"g", nil}, {"\xff", nil}, {text(300), nil}, // behind all
	} {
		seeks(t, oneLevel(), c.key, ofKeys(c.want...))
	}
	seeks(t, leaf("k", "v"), "", []entry{{"k", "v"}})
	seeks(t, leaf("k", "v"), "k", []entry{{"k", "v"}})
	seeks(t, leaf("k", "v"), "l", nil)
	seeks(t, leaf("k", ""), "j", []entry{{"k", ""}})
}

func TestSeekInTwoLevels(t *testing.T) {
	all := list("b", "d", "f", "h", "i", "j", "k", "l", "q", "s", "u")
	for _, c := range []seekCase{
		{"", all}, {"a", all}, {"b", all},
		{"c", all[1:]}, {"d", all[1:]}, // in the middle of the first leaf
		{"e", all[2:]}, {"f", all[2:]}, // the last one of it
		{"f\x00", all[3:]}, {"fz", all[3:]}, // between two leaves, ahead of the key of the second one
		{"g", all[3:]}, // the key of a kid, which no leaf has
		{"g\x00", all[3:]}, {"h", all[3:]},
		{"i", all[4:]}, {"j", all[5:]}, {"j\xff", all[6:]},
		{"k", all[6:]}, // the key of a kid, and the first one that it has
		{"k\x00", all[7:]}, {"l", all[7:]},
		{"m", all[8:]}, {"o\xff\xff", all[8:]}, {"p", all[8:]}, {"pp", all[8:]}, {"q", all[8:]},
		{"r", all[9:]}, {"s", all[9:]}, {"t", all[10:]}, {"u", all[10:]},
		{"u\x00", nil}, {"v", nil}, {"\xff", nil}, {text(300), nil},
	} {
		seeks(t, twoLevels(), c.key, ofKeys(c.want...))
	}
}

func TestSeekInThreeLevels(t *testing.T) {
	all := list("a0", "a1", "a3", "a4", "a6", "a8", "c0", "c1", "c3", "c4", "c6", "c8", "e0", "e1", "e3", "e4", "e6", "e8")
	for _, c := range []seekCase{
		{"", all}, {"a", all}, {"a0", all}, {"a1", all[1:]},
		{"a2", all[2:]}, {wide("a2"), all[2:]}, {wide("a2") + "\x00", all[2:]}, {"a3", all[2:]},
		{"a5", all[4:]}, {wide("a5"), all[4:]}, {"a6", all[4:]}, {"a7", all[5:]}, {"a8", all[5:]},
		{"a9", all[6:]}, {"b", all[6:]}, {"b\x00", all[6:]}, {"c", all[6:]}, {"c0", all[6:]}, // between two branches
		{"c2", all[8:]}, {wide("c5"), all[10:]}, {"c8", all[11:]},
		{"c8\x00", all[12:]}, {"d", all[12:]}, {"e", all[12:]}, {"e0", all[12:]}, {"e0\x00", all[13:]},
		{"e8", all[17:]}, {"e9", nil}, {"\xff", nil},
	} {
		seeks(t, threeLevels(), c.key, ofKeys(c.want...))
	}
}

func TestSeekInFourLevels(t *testing.T) {
	var all []string
	for _, letter := range list("a", "c", "e", "j", "m", "o") {
		for _, number := range list("0", "1", "3", "4", "6", "8") {
			all = append(all, letter+number)
		}
	}
	for _, c := range []seekCase{
		{"", all}, {"a0", all}, {"a1", all[1:]}, {wide("a2"), all[2:]}, {"a8", all[5:]},
		{"a9", all[6:]}, {"b", all[6:]}, {wide("b"), all[6:]}, {"c0", all[6:]}, {wide("d"), all[12:]}, {"e6", all[16:]}, {"e8", all[17:]},
		{"e9", all[18:]}, {"h\xff", all[18:]}, {"i", all[18:]}, {"i\x00", all[18:]}, {"j0", all[18:]}, // between the root's kids
		{"j1", all[19:]}, {wide("l"), all[24:]}, {"m3", all[26:]}, {wide("n"), all[30:]}, {"o8", all[35:]}, {"o9", nil}, {"\xff", nil},
	} {
		seeks(t, fourLevels(), c.key, ofKeys(c.want...))
	}
}

// TestSeekOfKeyThatBranchHolds deletes the first key of a kid, which its branch goes on holding.
func TestSeekOfKeyThatBranchHolds(t *testing.T) {
	n := branch(list("h", "p"), of("b", "d", "f"), of("h", "i", "j"), of("p", "q", "s"))
	less := deleted(t, n, "h")
	if !slices.Contains(branchKeys(less), "h") {
		t.Fatalf("no branch holds the key that was deleted:%s", show(less))
	}
	accepted(t, less)
	seeks(t, n, "h", ofKeys("h", "i", "j", "p", "q", "s"))
	for _, key := range list("f\x00", "g", "h", "h\x00", "i") {
		seeks(t, less, key, ofKeys("i", "j", "p", "q", "s"))
	}
	last := deleted(t, n, "p")
	if !slices.Contains(branchKeys(last), "p") {
		t.Fatalf("no branch holds the key that was deleted:%s", show(last))
	}
	for _, key := range list("k", "p", "p\x00", "q") {
		seeks(t, last, key, ofKeys("q", "s"))
	}
}

// TestBytes asks for keys that differ behind their first bytes, or have the least or greatest bytes, and for values of each kind.
func TestBytes(t *testing.T) {
	n := tree.Empty()
	var want []entry
	for i, key := range list("\x00", "\x00\x00", "\x01", "A", "a", "a\x00", "aa", "aa\xff", "b", "\x7f", "\x80", "\xc3\xa9", "\xff", "\xff\xff", strings.Repeat("\xff", 16)) {
		value := strings.Repeat(string(rune('a'+i)), []int{0, 1, 16, 17, 118, 119, 120, 400}[i%8])
		n, want = tree.Put(n, key, value), append(want, entry{key, value})
	}
	accepted(t, n)
	seeks(t, n, "", want)
	for i, e := range want {
		seeks(t, n, e.key, want[i:])
		seeks(t, n, e.key+"\x00", from(want, e.key+"\x00"))
	}
	seeks(t, n, strings.Repeat("\xff", 17), nil)
	counts(t, n, 15)
}

// TestLaid asks for trees whose nodes and values are at pages: these play no part.
func TestLaid(t *testing.T) {
	for _, n := range append(written(), leaf("a", text(400), "b", text(17))) {
		page := 1
		var lay func(n *tree.Node)
		lay = func(n *tree.Node) {
			page++
			n.Page = page
			for i, v := range n.Vals {
				if len(v.Data) > 16 {
					n.Vals[i].Pages = []int{page + 500, page + 600}
				}
			}
			for i := range n.Kids {
				lay(&n.Kids[i])
			}
		}
		if len(n.Keys) > 0 {
			lay(&n)
		}
		accepted(t, n)
		want := entriesOf(n)
		seeks(t, n, "", want)
		seeks(t, n, "d", from(want, "d"))
		counts(t, n, len(want))
	}
}

func TestNilCursor(t *testing.T) {
	var c *walk.Cursor
	for range 3 {
		isAt(t, c, nil, 0)
		goesOn(t, c, nil)
	}
}

func TestCount(t *testing.T) {
	counts(t, tree.Empty(), 0)
	counts(t, leaf("k", "v"), 1)
	counts(t, leaf("k", ""), 1)
	counts(t, leaf("k", text(400)), 1)
	counts(t, oneLevel(), 3)
	counts(t, twoLevels(), 11)
	counts(t, threeLevels(), 18)
	counts(t, fourLevels(), 36)
	counts(t, tree.Put(oneLevel(), "d", "another one"), 3)
	counts(t, tree.Put(oneLevel(), "e", ""), 4)
	counts(t, tree.Put(fourLevels(), "e5", ""), 37)
	counts(t, deleted(t, oneLevel(), "d"), 2)
	counts(t, deleted(t, twoLevels(), "k"), 10)
	counts(t, deleted(t, fourLevels(), "o8"), 35)
	counts(t, deleted(t, leaf("k", "v"), "k"), 0)
}
