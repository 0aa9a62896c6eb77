package walk_test

import (
	"fmt"
	"maps"
	"slices"
	"strings"
	"testing"

	"jalousie/prune"
	"jalousie/tree"
	"jalousie/walk"
)

// sortedOf is the entries of a map, in the order of their keys.
func sortedOf(entries map[string]string) []entry {
	var out []entry
	for _, key := range slices.Sorted(maps.Keys(entries)) {
		out = append(out, entry{key, entries[key]})
	}
	return out
}

// grownTrees is trees of one level to four and more, put in rising, falling and drawn order, and some of them with deletions behind the puts.
func grownTrees(t *testing.T) []tree.Node {
	t.Helper()
	var out []tree.Node
	met := map[int]int{}
	for order := range 3 {
		for _, many := range []int{1, 3, 7, 20, 60, 130} {
			draw := dice(uint64(17 + order + many))
			n := tree.Empty()
			for i := range many {
				number := []int{i, many - i, draw(10 * many)}[order]
				n = tree.Put(n, fmt.Sprintf("%04d%s", number, text(draw(5)+8)), text(draw(40)))
			}
			less := n
			for _, e := range entriesOf(n) {
				if draw(4) == 0 {
					less, _ = prune.Delete(less, e.key)
				}
			}
			out = append(out, n, less)
			met[levels(n)]++
		}
	}
	for i := 1; i <= 4; i++ {
		if met[i] == 0 {
			t.Fatalf("no tree of %d levels among those that were grown: %v", i, met)
		}
	}
	return out
}

// TestSeekInGrownTrees asks for each key that a leaf or a branch has, and those beside it.
func TestSeekInGrownTrees(t *testing.T) {
	held := 0
	for _, n := range grownTrees(t) {
		want := entriesOf(n)
		keys := branchKeys(n)
		for _, key := range keys {
			if at := from(want, key); len(at) > 0 && at[0].key != key {
				held++
			}
		}
		for _, e := range want {
			keys = append(keys, e.key)
		}
		for _, key := range keys {
			for _, beside := range list(key, key+"\x00", key[:len(key)-1], key[:len(key)-1]+"\xff") {
				tells(t, walk.Seek(n, beside), from(want, beside), levels(n))
			}
		}
		for _, key := range list("", "\x00", "0", "9", "\xff") {
			seeks(t, n, key, from(want, key))
		}
		counts(t, n, len(want))
	}
	if held == 0 {
		t.Fatal("no branch of these trees holds a key that no leaf has")
	}
}

// P17.2.

// TestAllEntries goes through trees of any puts and deletions, beside a plain map.
func TestAllEntries(t *testing.T) {
	most := 0
	for seed := range 6 {
		draw := dice(uint64(170 + seed))
		n, entries := tree.Empty(), map[string]string{}
		for step := range 900 {
			key := strings.Repeat(string(rune('a'+draw(26))), 1+draw(4)) + strings.Repeat(string(rune('a'+draw(5))), 9+draw(4))
			// At times there are more puts, and at times more deletions.
			if draw(10) < []int{7, 2}[step/300%2] {
				value := strings.Repeat("v", draw([]int{17, 120, 401}[seed%3]))
				n, entries[key] = tree.Put(n, key, value), value
			} else {
				if l := sortedOf(entriesFrom(entries, key)); len(l) > 0 {
					key = l[0].key
				}
				n, _ = prune.Delete(n, key)
				delete(entries, key)
			}
			most = max(most, levels(n))
			if step%7 > 0 {
				continue
			}
			want := sortedOf(entries)
			tells(t, walk.Seek(n, ""), want, levels(n))
			tells(t, walk.Seek(n, key), from(want, key), levels(n))
			if got := walk.Count(n); got != len(want) {
				t.Fatalf("Count = %d, want %d, of%s", got, len(want), show(n))
			}
		}
	}
	if most < 4 {
		t.Fatalf("no tree of more than %d levels came up", most)
	}
}

// entriesFrom is those entries of a map whose key is at least one.
func entriesFrom(entries map[string]string, key string) map[string]string {
	out := maps.Clone(entries)
	maps.DeleteFunc(out, func(other, _ string) bool { return other < key })
	return out
}

// More cursors than one, and more trees.

// TestCursorsByTurns takes two cursors over one tree forward by turns, each a number of steps at a time.
func TestCursorsByTurns(t *testing.T) {
	for _, n := range append(grownTrees(t), written()...) {
		all := entriesOf(n)
		middle := ""
		if len(all) > 0 {
			middle = all[len(all)/2].key
		}
		for _, keys := range [][2]string{{"", ""}, {"", middle}, {middle, ""}, {middle, middle}, {"", "\xff"}} {
			for _, turns := range [][2]int{{1, 1}, {1, 3}, {4, 1}, {2, 0}, {0, 2}} {
				byTurns(t, n, keys, turns)
			}
		}
	}
}

func byTurns(t *testing.T, n tree.Node, keys [2]string, turns [2]int) {
	t.Helper()
	var cursors [2]*walk.Cursor
	var left [2][]entry
	for i, key := range keys {
		cursors[i], left[i] = walk.Seek(n, key), from(entriesOf(n), key)
	}
	for range len(entriesOf(n)) + 1 {
		for i, steps := range turns {
			for range steps {
				left[i] = goesOn(t, cursors[i], left[i])
				isAt(t, cursors[0], left[0], levels(n))
				isAt(t, cursors[1], left[1], levels(n))
			}
		}
	}
	for i, c := range cursors {
		tells(t, c, left[i], levels(n))
	}
}

// TestCursorBesideChanges makes further trees of the one that a cursor goes over, by puts and deletions just ahead of it and behind it.
func TestCursorBesideChanges(t *testing.T) {
	for _, n := range append(grownTrees(t), written()...) {
		left := entriesOf(n)
		depth := levels(n)
		was := memory(n)
		c := walk.Seek(n, "")
		next := n
		for len(left) > 0 {
			key := left[0].key
			for _, of := range []tree.Node{n, next} {
				next = tree.Put(of, key, "another value")
				next = tree.Put(next, key[:len(key)-1]+"\xfe", text(200))
				next = deleted(t, next, key)
			}
			isAt(t, c, left, depth)
			left = goesOn(t, c, left)
			next, _ = prune.Without(next, list(key, "\xfe"))
		}
		tells(t, c, nil, depth)
		if !slices.Equal(memory(n), was) {
			t.Fatalf("the tree is changed:%s", show(n))
		}
		// A cursor of the last one tells that one's entries.
		tells(t, walk.Seek(next, ""), entriesOf(next), levels(next))
	}
}

// TestCursorBesideWriting writes over the tree that was handed in while a cursor is on its way.
func TestCursorBesideWriting(t *testing.T) {
	for _, n := range append(grownTrees(t)[:12], written()...) {
		all := entriesOf(n)
		for steps := range len(all) + 1 {
			handed := roomy(n, 1)
			c, left := walk.Seek(handed, ""), all
			for range steps {
				left = goesOn(t, c, left)
			}
			scribble(handed)
			tells(t, c, left, levels(n))
		}
	}
}

// Trees that may not be: nothing is promised of them but that each call ends.

// ends calls all there is, and holds that a cursor from the empty key on tells as many entries as Count does.
func ends(t *testing.T, n tree.Node) {
	t.Helper()
	was := memory(n)
	for _, key := range list("", "a", "b", "bb", "\xff") {
		c, told := walk.Seek(n, key), 0
		for {
			peeked, there := c.Peek()
			depth := c.Depth()
			got, _, ok := c.Next()
			if got != peeked || ok != there || (depth > 0) != there {
				t.Fatalf("Peek = %q, %v, Depth = %d, and Next = %q, %v, of%s", peeked, there, depth, got, ok, show(n))
			}
			if !ok {
				break
			}
			told++
		}
		if many := walk.Count(n); told > many || key == "" && told != many {
			t.Fatalf("%d entries from %q on, and Count = %d, of%s", told, key, many, show(n))
		}
	}
	if !slices.Equal(memory(n), was) {
		t.Fatalf("the tree is changed:%s", show(n))
	}
}

// TestRowsThatDoNotFit asks for nodes with any number of keys, values and kids, by themselves and as kids.
func TestRowsThatDoNotFit(t *testing.T) {
	for keys := range 4 {
		for vals := range 4 {
			for kids := range 4 {
				for _, isLeaf := range []bool{true, false} {
					n := tree.Node{Leaf: isLeaf, Keys: list("", "b", "c")[:keys], Vals: make([]tree.Val, vals), Kids: []tree.Node{of("a"), tree.Empty(), of("c", "d")}[:kids]}
					ends(t, n)
					ends(t, branch(list("b"), of("a", "aa"), n))
					ends(t, branch(list("b", "c"), n, tree.Empty(), n))
					ends(t, branch(list("b"), branch(nil), branch(list("b"), n, n)))
				}
			}
		}
	}
}

// TestSkipsNodesWithoutEntries asks for leaves without keys and branches without kids between others, and for leaves at unequal distances.
func TestSkipsNodesWithoutEntries(t *testing.T) {
	none, one := branch(list("b"), tree.Empty(), branch(nil)), tree.Empty()
	n := branch(list("b", "c", "d", "e", "f"), none, of("b"), tree.Node{}, branch(list("d"), one, of("d")), one, none)
	ends(t, n)
	for _, c := range []struct {
		key   string
		want  []string
		depth int
	}{{"", list("b", "d"), 2}, {"b", list("b", "d"), 2}, {"c", list("d"), 3}, {"d", list("d"), 3}, {"e", nil, 0}} {
		at := walk.Seek(n, c.key)
		isAt(t, at, ofKeys(c.want...), c.depth)
		for left := ofKeys(c.want...); ; {
			left = goesOn(t, at, left)
			if len(left) == 0 {
				break
			}
		}
		isAt(t, at, nil, 0)
	}
	ends(t, tree.Node{})
	ends(t, none)
}

// TestManyLevels asks for as many as the document allows.
func TestManyLevels(t *testing.T) {
	n := of("a", "b")
	for range 1<<16 - 1 {
		n = branch(nil, n)
	}
	c := walk.Seek(n, "b")
	if c.Depth() != 1<<16 {
		t.Fatalf("Depth = %d", c.Depth())
	}
	goesOn(t, c, ofKeys("b"))
	isAt(t, c, nil, 0)
	if got := walk.Count(n); got != 2 {
		t.Fatalf("Count = %d", got)
	}
}

// TestZeroCursor asks one that Seek didn't make.
func TestZeroCursor(t *testing.T) {
	isAt(t, &walk.Cursor{}, nil, 0)
	goesOn(t, new(walk.Cursor), nil)
}
