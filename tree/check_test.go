package tree_test

import (
	"slices"
	"testing"

	"jalousie/tree"
)

// P15.5, done as the chapter says it, one condition behind the other.

func plainCheck(n tree.Node) bool {
	if alike(n, tree.Node{Leaf: true}) {
		return true
	}
	for _, holds := range []func(n tree.Node) bool{rowsFit, keysFit, valuesFit, sizesFit, sameDistance, keysBelowFit} {
		if !holds(n) {
			return false
		}
	}
	return true
}

// each tells whether something holds for each node.
func each(n tree.Node, holds func(n tree.Node) bool) bool {
	ok := true
	nodes(n, func(n tree.Node) { ok = ok && holds(n) })
	return ok
}

func rowsFit(n tree.Node) bool {
	return each(n, func(n tree.Node) bool {
		keys, vals, kids := len(n.Keys), len(n.Vals), len(n.Kids)
		return n.Leaf && keys >= 1 && vals == keys && kids == 0 || !n.Leaf && keys >= 2 && kids == keys && vals == 0
	})
}

func keysFit(n tree.Node) bool {
	return each(n, func(n tree.Node) bool {
		keys := n.Keys
		if !n.Leaf {
			if keys[0] != "" {
				return false
			}
			keys = keys[1:]
		}
		for i, key := range keys {
			if key == "" || len(key) > 16 || i > 0 && keys[i-1] >= key {
				return false
			}
		}
		return true
	})
}

func valuesFit(n tree.Node) bool {
	return each(n, func(n tree.Node) bool {
		for _, v := range n.Vals {
			if len(v.Data) > 400 || len(v.Data) <= 16 && len(v.Pages) > 0 {
				return false
			}
		}
		return true
	})
}

func sizesFit(n tree.Node) bool {
	below := true
	for _, kid := range n.Kids {
		below = below && each(kid, func(n tree.Node) bool { return sumOf(n) >= 30 })
	}
	return below && each(n, func(n tree.Node) bool { return sumOf(n) <= 122 })
}

func sameDistance(n tree.Node) bool {
	at := map[int]bool{}
	var on func(n tree.Node, distance int)
	on = func(n tree.Node, distance int) {
		if n.Leaf {
			at[distance] = true
		}
		for _, kid := range n.Kids {
			on(kid, distance+1)
		}
	}
	on(n, 0)
	return len(at) == 1
}

func keysBelowFit(n tree.Node) bool {
	return each(n, func(n tree.Node) bool {
		for k, kid := range n.Kids {
			ok := each(kid, func(below tree.Node) bool {
				keys := below.Keys
				if !below.Leaf {
					keys = keys[1:]
				}
				for _, key := range keys {
					if key < n.Keys[k] || k+1 < len(n.Keys) && key >= n.Keys[k+1] {
						return false
					}
				}
				return true
			})
			if !ok {
				return false
			}
		}
		return true
	})
}

// Trees that Check accepts, written out.

// forty is a leaf of two entries of 20.
func forty(letter string) tree.Node { return sized(20, letter+"1", letter+"2") }

// thirtyTwo is a branch of three leaves, for 4 and two of 14. The keys of a leaf begin with a letter, that of a kid with the one ahead of it.
func thirtyTwo(a, b, bKey, c, cKey string) tree.Node {
	return branch(list(bKey+text(9), cKey+text(9)), forty(a), forty(b), forty(c))
}

func oneLevel() tree.Node { return forty("k") }

func twoLevels() tree.Node { return branch(list("c", "e"), forty("a"), forty("c"), forty("e")) }

func threeLevels() tree.Node {
	return branch(list("i", "q"), thirtyTwo("a", "d", "c", "g", "f"), thirtyTwo("j", "m", "l", "p", "o"), thirtyTwo("q", "t", "s", "w", "v"))
}

// with is a tree in which a node is another one: the one that is reached by the indices of kids.
func with(n tree.Node, way []int, change func(n *tree.Node)) tree.Node {
	out := twin(n)
	at := &out
	for _, k := range way {
		at = &at.Kids[k]
	}
	change(at)
	return out
}

func TestCheckAccepts(t *testing.T) {
	for _, n := range []tree.Node{
		tree.Empty(),
		{Leaf: true, Keys: []string{}, Vals: []tree.Val{}, Kids: []tree.Node{}},
		oneLevel(), twoLevels(), threeLevels(),
		leaf("k", "v"),
		leaf("k", ""), // a root may be low
		leaf(text(16), text(400)),
		branch(list("c"), forty("a"), forty("c")),
		branch(list("b"), forty("a"), forty("c")),
		branch(list("a3"), forty("a"), forty("c")), // a key that none of the leaves has
		branch(list(wide("b")), forty("a"), forty("c")),
	} {
		check(t, n, true)
		if !alike(n, tree.Empty()) {
			check(t, laid(n), true)
			check(t, onPage(7, n), true)
			check(t, onPage(-1, n), true)
		}
	}
}

// TestCheckOfEmpty asks for leaves without keys: just Empty itself may be.
func TestCheckOfEmpty(t *testing.T) {
	check(t, tree.Node{}, false)
	for _, page := range []int{1, 2, 999, -1} {
		check(t, tree.Node{Leaf: true, Page: page}, false)
	}
	check(t, tree.Node{Leaf: true, Vals: make([]tree.Val, 1)}, false)
	check(t, tree.Node{Leaf: true, Kids: make([]tree.Node, 1)}, false)
	check(t, tree.Node{Leaf: true, Kids: []tree.Node{tree.Empty()}}, false)
	for k := range 3 {
		check(t, with(twoLevels(), []int{k}, func(n *tree.Node) { *n = tree.Empty() }), false)
	}
}

// fault is a condition that is broken, at a leaf or a branch.
type fault struct {
	name   string
	ofLeaf bool
	change func(n *tree.Node)
}

// faults is those that can be brought into each leaf of two entries, or into each branch of three kids, whatever is above it, and break what a node must be by itself.
func faults() []fault {
	val, kid := tree.Val{Data: "v"}, forty("z")
	return []fault{
		{"too few values", true, func(n *tree.Node) { n.Vals = n.Vals[:1] }},
		{"no values", true, func(n *tree.Node) { n.Vals = nil }},
		{"too many values", true, func(n *tree.Node) { n.Vals = append(n.Vals, val) }},
		{"too few keys", true, func(n *tree.Node) { n.Keys = n.Keys[:1]; n.Vals[0].Data = text(16) }},
		{"kids in a leaf", true, func(n *tree.Node) { n.Kids = []tree.Node{kid} }},
		{"as many kids as keys in a leaf", true, func(n *tree.Node) { n.Kids = []tree.Node{kid, kid} }},
		{"a leaf that says it is a branch", true, func(n *tree.Node) { n.Leaf = false }},
		{"equal keys", true, func(n *tree.Node) { n.Keys[1] = n.Keys[0] }},
		{"keys that fall", true, func(n *tree.Node) { n.Keys[0], n.Keys[1] = n.Keys[1], n.Keys[0] }},
		{"a key of 17 bytes", true, func(n *tree.Node) { n.Keys[1] += text(15) }},
		{"a first key of 17 bytes", true, func(n *tree.Node) { n.Keys[0] += text(15) }},
		{"a value of 401 bytes", true, func(n *tree.Node) { n.Vals[0].Data = text(401); pad(n) }},
		{"another one of 401 bytes", true, func(n *tree.Node) { n.Vals[1].Data = text(401); pad(n) }},
		{"a value of 401 bytes with pages", true, func(n *tree.Node) { n.Vals[0] = tree.Val{Data: text(401), Pages: []int{2, 3, 4, 5}}; pad(n) }},
		{"pages of a value that isn't long", true, func(n *tree.Node) { n.Vals[0].Pages = []int{2} }},
		{"pages of a value of 16 bytes", true, func(n *tree.Node) { n.Vals[1] = tree.Val{Data: text(16), Pages: []int{2, 3}} }},
		{"pages of a value of no bytes", true, func(n *tree.Node) { n.Vals[1] = tree.Val{Pages: []int{2}}; pad(n) }},
		{"123 in a leaf", true, func(n *tree.Node) { filledUp(n, 123) }},
		{"130 in a leaf", true, func(n *tree.Node) { filledUp(n, 130) }},
		{"too few kids", false, func(n *tree.Node) { n.Kids = n.Kids[:2] }},
		{"no kids", false, func(n *tree.Node) { n.Kids = nil }},
		{"too many kids", false, func(n *tree.Node) { n.Kids = append(n.Kids, n.Kids[2]) }},
		{"too few keys of kids", false, func(n *tree.Node) { n.Keys = n.Keys[:2] }},
		{"values in a branch", false, func(n *tree.Node) { n.Vals = []tree.Val{val} }},
		{"as many values as keys in a branch", false, func(n *tree.Node) { n.Vals = []tree.Val{val, val, val} }},
		{"values and no kids in a branch", false, func(n *tree.Node) { n.Vals, n.Kids = []tree.Val{val, val, val}, nil }},
		{"a branch that says it is a leaf", false, func(n *tree.Node) { n.Leaf = true }},
		{"a first key that isn't empty", false, func(n *tree.Node) { n.Keys[0] = firstKey(*n) }},
		{"a first key of one byte", false, func(n *tree.Node) { n.Keys[0] = "\x00" }},
		{"a second key that is empty", false, func(n *tree.Node) { n.Keys[1] = "" }},
		{"a last key that is empty", false, func(n *tree.Node) { n.Keys[2] = "" }},
		{"equal keys of kids", false, func(n *tree.Node) { n.Keys[2] = n.Keys[1] }},
		{"keys of kids that fall", false, func(n *tree.Node) { n.Keys[2], n.Keys[1] = n.Keys[1], n.Keys[2] }},
		{"a kid's key of 17 bytes", false, func(n *tree.Node) { n.Keys[1] = grown(n.Keys[1], 17) }},
		{"the last kid's key of 17 bytes", false, func(n *tree.Node) { n.Keys[2] = grown(n.Keys[2], 17) }},
		{"kids in another order", false, func(n *tree.Node) { n.Kids[0], n.Kids[1] = n.Kids[1], n.Kids[0] }},
		{"a kid twice", false, func(n *tree.Node) { n.Kids[1] = n.Kids[2] }},
		{"a key of a kid above its own ones", false, func(n *tree.Node) { n.Keys[1] = lastKey(n.Kids[1]) }},
		{"a key of a kid just above its first one", false, func(n *tree.Node) { n.Keys[1] = firstKey(n.Kids[1]) + "\x00" }},
		{"a key of the last kid just above its first one", false, func(n *tree.Node) { n.Keys[2] = firstKey(n.Kids[2]) + "\x00" }},
		{"a key of a kid that the one ahead has", false, func(n *tree.Node) { n.Keys[1] = lastKey(n.Kids[0]) }},
		{"a key of the last kid that the one ahead has", false, func(n *tree.Node) { n.Keys[2] = lastKey(n.Kids[1]) }},
		{"one child", false, func(n *tree.Node) { n.Keys, n.Kids = n.Keys[:1], n.Kids[:1] }},
	}
}

// pad makes the values of a leaf that has too few cells great enough for a page of their own.
func pad(n *tree.Node) {
	for i := 0; sumOf(*n) < 30; i++ {
		n.Keys = append(n.Keys, n.Keys[1]+"0123456789"[i:i+1])
		n.Vals = append(n.Vals, tree.Val{})
	}
}

// filledUp gives a leaf further entries until its sizes have a sum.
func filledUp(n *tree.Node, sum int) {
	key := n.Keys[1]
	sizes, _ := parts(sum-sumOf(*n), 6, 22)
	for i, size := range sizes {
		n.Keys = append(n.Keys, key+"0123456789"[i:i+1])
		n.Vals = append(n.Vals, tree.Val{Data: text(size - 6)})
	}
}

// grown is a text with letters behind it, of so many bytes.
func grown(s string, size int) string { return s + text(size-len(s)) }

// firstKey is the first key of a tree's leaves.
func firstKey(n tree.Node) string {
	if n.Leaf {
		return n.Keys[0]
	}
	return firstKey(n.Kids[0])
}

// lastKey is the last one.
func lastKey(n tree.Node) string {
	if n.Leaf {
		return n.Keys[len(n.Keys)-1]
	}
	return lastKey(n.Kids[len(n.Kids)-1])
}

// ways is the way to each node of a tree.
func ways(n tree.Node) [][]int {
	out := [][]int{{}}
	for k, kid := range n.Kids {
		for _, way := range ways(kid) {
			out = append(out, slices.Concat([]int{k}, way))
		}
	}
	return out
}

// TestCheckRefuses asks for each fault at each node that can have it, at a page and at none.
func TestCheckRefuses(t *testing.T) {
	for _, n := range []tree.Node{oneLevel(), twoLevels(), threeLevels(), laid(threeLevels())} {
		check(t, n, true)
		for _, way := range ways(n) {
			for _, f := range faults() {
				isLeaf := false
				with(n, way, func(n *tree.Node) { isLeaf = n.Leaf })
				if isLeaf != f.ofLeaf {
					continue
				}
				if broken := with(n, way, f.change); tree.Check(broken) {
					t.Fatalf("Check accepts %s at %v:%s", f.name, way, show(broken))
				}
				check(t, with(n, way, f.change), false)
			}
		}
	}
}

// TestCheckOfKeys asks for keys of the first leaf, which are bounded by nothing ahead of them.
func TestCheckOfKeys(t *testing.T) {
	for _, n := range []tree.Node{oneLevel(), twoLevels(), threeLevels()} {
		var way []int
		for range levels(n) - 1 {
			way = append(way, 0)
		}
		for _, c := range []struct {
			key  string
			want bool
		}{{"", false}, {"\x00", true}, {"\x00" + text(15), true}, {"\x00" + text(16), false}, {"!", true}, {"\xff", false}} {
			check(t, with(n, way, func(n *tree.Node) { n.Keys[0] = c.key; n.Vals[0].Data = text(10) }), c.want)
		}
	}
	// Keys of kids, of one byte and of 16.
	for _, c := range []struct {
		key  string
		want bool
	}{{"b", true}, {"a3", true}, {grown("b", 16), true}, {grown("b", 17), false}, {"a2\x00", true}, {"a2", false}, {"c1", true}, {"c1\x00", false}, {"c", true}, {"", false}, {"e", false}} {
		check(t, with(twoLevels(), nil, func(n *tree.Node) { n.Keys[1] = c.key }), c.want)
	}
}

// TestCheckOfValues asks for values of each size, with and without pages.
func TestCheckOfValues(t *testing.T) {
	for _, way := range [][]int{{}, {1}, {2, 2}} {
		n := []tree.Node{oneLevel(), twoLevels(), threeLevels()}[len(way)]
		for size := range 420 {
			for _, pages := range [][]int{nil, {}, {7}, {7, 9}, {2, 3, 4, 5}, {1, 0, -4, 5000, 5000}} {
				broken := with(n, way, func(n *tree.Node) { n.Vals[0] = tree.Val{Data: text(size), Pages: pages}; pad(n) })
				check(t, broken, size <= 400 && (len(pages) == 0 || size > 16))
			}
		}
	}
}

// TestCheckOfSizes asks for each sum of sizes: of a leaf and of a branch, as a root and below.
func TestCheckOfSizes(t *testing.T) {
	for sum := range 140 {
		for _, isLeaf := range []bool{true, false} {
			n, ok := summing(isLeaf, "k", sum)
			if !ok {
				continue
			}
			if !isLeaf {
				for k, kid := range n.Kids { // leaves of which each is great enough
					n.Kids[k] = sized(20, firstKey(kid), firstKey(kid)[:min(2, len(firstKey(kid)))]+[]string{"0", "y"}[min(k, 1)])
				}
			}
			if isLeaf || sum > 4 {
				check(t, n, sum <= 122)
			}
			ahead, behind := forty("a"), forty("z")
			if !isLeaf {
				ahead, behind = thirtyTwo("a", "d", "c", "g", "f"), thirtyTwo("q", "t", "s", "w", "v")
			}
			may := sum >= 30 && sum <= 122
			check(t, branch(list("k"), ahead, n), may)
			check(t, branch(list("q"), n, behind), may)
			check(t, branch(list("k", "q"), ahead, n, behind), may)
		}
	}
}

// TestCheckOfManyKids asks for a root with each number of kids.
func TestCheckOfManyKids(t *testing.T) {
	for many := 1; many <= 30; many++ {
		n := branch(nil, forty("A"))
		for _, letter := range letters('B', many-1) {
			n.Keys, n.Kids = append(n.Keys, letter), append(n.Kids, forty(letter))
		}
		check(t, n, many >= 2 && 4+5*(many-1) <= 122)
	}
}

// TestCheckOfDistances asks for leaves that are not as far from the root as others.
func TestCheckOfDistances(t *testing.T) {
	inner := thirtyTwo("j", "m", "l", "p", "o")
	check(t, branch(list("i", "q"), forty("a"), forty("k"), forty("q")), true)
	check(t, branch(list("i", "q"), forty("a"), inner, forty("q")), false)
	check(t, branch(list("i"), forty("a"), inner), false)
	check(t, branch(list("q"), inner, forty("q")), false)
	check(t, branch(list("i", "q"), thirtyTwo("a", "d", "c", "g", "f"), inner, forty("q")), false)
	check(t, branch(list("i", "q"), forty("a"), inner, thirtyTwo("q", "t", "s", "w", "v")), false)
	check(t, branch(list("i", "q"), thirtyTwo("a", "d", "c", "g", "f"), forty("k"), thirtyTwo("q", "t", "s", "w", "v")), false)
	// One level further down.
	for k := range 3 {
		for i := range 3 {
			broken := with(threeLevels(), []int{k, i}, func(n *tree.Node) {
				first, last := n.Keys[0], n.Keys[1]
				*n = branch(list(first+"5"+text(8), first+"7"+text(8)), sized(20, first, first+"1"), sized(20, first+"6", first+"61"), sized(20, first+"8", last))
			})
			check(t, broken, false)
			check(t, with(broken, []int{k, i}, func(n *tree.Node) { *n = n.Kids[0] }), true)
		}
	}
}

// TestCheckOfKeysFarAbove asks for keys that the kid's own branch allows, and one further up doesn't.
func TestCheckOfKeysFarAbove(t *testing.T) {
	n := threeLevels()
	last := func(key string) tree.Node { return with(n, []int{0, 2}, func(n *tree.Node) { n.Keys[1] = key }) }
	for _, c := range []struct {
		key  string
		want bool
	}{{"h", true}, {"h\xff\xff", true}, {"i", false}, {"i\x00", false}, {"j0", false}, {"k", false}, {"p9", false}, {"\xff", false}} {
		check(t, last(c.key), c.want)
	}
	first := func(key string) tree.Node { return with(n, []int{1, 0}, func(n *tree.Node) { n.Keys[0] = key }) }
	for _, c := range []struct {
		key  string
		want bool
	}{{"i", true}, {"i\x00", true}, {"h\xff\xff", false}, {"h", false}, {"g2", false}, {"a", false}, {"\x00", false}} {
		check(t, first(c.key), c.want)
	}
	// Keys of a branch below: there is no leaf that they could stand between.
	for _, c := range []struct {
		k    int
		key  string
		want bool
	}{{1, "k", true}, {1, "j2\x00", true}, {1, "h", false}, {1, "i", false}, {2, "q", false}, {2, "z", false}, {2, "n", true}} {
		check(t, with(n, []int{1}, func(n *tree.Node) { n.Keys[c.k] = grown(c.key, 10) }), c.want)
	}
}

// TestCheckOfDrawn asks for trees that Put made, with one thing changed, against the chapter's words.
func TestCheckOfDrawn(t *testing.T) {
	draw := dice(155)
	accepted, refused := 0, 0
	for range 150 {
		n := tree.Empty()
		size := []int{2, 9, 16}[draw(3)]
		for range 1 + draw(70) {
			n = tree.Put(n, digits(draw(4000), size), text(valueSizes[draw(len(valueSizes))]))
		}
		check(t, n, true)
		var all []string
		nodes(n, func(n tree.Node) { all = append(all, n.Keys...) })
		places := ways(n)
		for range 40 {
			broken := with(n, places[draw(len(places))], func(at *tree.Node) { drawnFault(draw, at, all) })
			want := plainCheck(broken)
			check(t, broken, want)
			if want {
				accepted++
			} else {
				refused++
			}
		}
	}
	if accepted < 1000 || refused < 1000 {
		t.Fatalf("%d are accepted, %d refused", accepted, refused)
	}
}

// drawnFault changes a thing of a node, to something that may be or not.
func drawnFault(draw func(below int) int, n *tree.Node, keys []string) {
	i := draw(len(n.Keys))
	switch draw(9) {
	case 0: // a key that is somewhere else, or beside it
		n.Keys[i] = keys[draw(len(keys))]
	case 1:
		n.Keys[i] += "0"
	case 2:
		n.Keys[i] = n.Keys[i][:len(n.Keys[i])/2]
	case 3:
		n.Page = draw(3)
	case 4:
		if n.Leaf {
			n.Vals[i].Data = text(valueSizes[draw(len(valueSizes))] + draw(2))
		}
	case 5:
		if n.Leaf {
			n.Vals[i].Pages = make([]int, draw(4))
		}
	case 6: // a cell less
		n.Keys = slices.Delete(n.Keys, i, i+1)
		if n.Leaf {
			n.Vals = slices.Delete(n.Vals, i, i+1)
		} else {
			n.Kids = slices.Delete(n.Kids, i, i+1)
			if i == 0 && len(n.Keys) > 0 {
				n.Keys[0] = ""
			}
		}
	case 7: // an entry more
		if n.Leaf {
			n.Keys = slices.Insert(n.Keys, i, n.Keys[i][:len(n.Keys[i])-1])
			n.Vals = slices.Insert(n.Vals, i, tree.Val{Data: text(draw(20))})
		}
	case 8: // a level less
		if !n.Leaf {
			n.Kids[i] = leaf("a", text(16), "b", text(16))
		}
	}
}
