package node_test

import (
	"bytes"
	"encoding/hex"
	"hash/crc32"
	"math"
	"slices"
	"strings"
	"testing"

	"jalousie/api"
	"jalousie/node"
)

// The signatures and fields that the chapter lists: others don't compile.
var (
	_ func(node.Node) [][]byte            = node.Cells
	_ func(node.Node) bool                = node.Check
	_ func(node.Node) ([]byte, api.Errno) = node.Put
	_ func([]byte) (node.Node, api.Errno) = node.Get
	_                                     = struct {
		Data string
		Far  bool
		Size int
		Page int
	}(node.Val{})
	_ = struct {
		Key string
		Val node.Val
	}(node.Entry{})
	_ = node.Node{Leaf: true, L: []node.Entry{}}
)

// dice produces numbers below one, which look like chance and are the same for one seed.
func dice(seed uint64) func(below int) int {
	return func(below int) int {
		seed = seed*6364136223846793005 + 1442695040888963407
		return int(seed >> 33 % uint64(below))
	}
}

// in is an entry of a leaf, with an inline value.
func in(key, data string) node.Entry { return node.Entry{Key: key, Val: node.Val{Data: data}} }

// far is an entry of a leaf, with a far value.
func far(key string, size, page int) node.Entry {
	return node.Entry{Key: key, Val: node.Val{Far: true, Size: size, Page: page}}
}

// kid is an entry of a branch.
func kid(key string, page int) node.Entry { return node.Entry{Key: key, Val: node.Val{Page: page}} }

func leaf(l ...node.Entry) node.Node   { return node.Node{Leaf: true, L: l} }
func branch(l ...node.Entry) node.Node { return node.Node{L: l} }

// flipped is a node's entries as those of the other kind of node.
func flipped(n node.Node) node.Node { return node.Node{Leaf: !n.Leaf, L: n.L} }

// same tells whether nodes are the same; nil and empty entries are.
func same(a, b node.Node) bool { return a.Leaf == b.Leaf && slices.Equal(a.L, b.L) }

// copied is a node in memory of its own.
func copied(n node.Node) node.Node { return node.Node{Leaf: n.Leaf, L: slices.Clone(n.L)} }

// sameCells tells whether cells are the same; nil and empty ones are.
func sameCells(a, b [][]byte) bool { return slices.EqualFunc(a, b, bytes.Equal) }

// text is so many letters.
func text(size int) string { return strings.Repeat("x", size) }

// fromHex is bytes that are written out.
func fromHex(t *testing.T, s string) []byte {
	t.Helper()
	b, err := hex.DecodeString(strings.ReplaceAll(s, " ", ""))
	if err != nil {
		t.Fatal(err)
	}
	return b
}

// summed is the page of 124 bytes, behind their sum.
func summed(body []byte) []byte {
	sum := crc32.ChecksumIEEE(body)
	return append([]byte{byte(sum >> 24), byte(sum >> 16), byte(sum >> 8), byte(sum)}, body...)
}

// resummed is a page with the right sum, whatever is behind it.
func resummed(page []byte) []byte { return summed(page[4:]) }

// page is the page of a kind and cells that have room.
func page(kind byte, l [][]byte) []byte {
	slots, tail := []byte{}, []byte{}
	for _, c := range l {
		tail = slices.Concat(c, tail)
		slots = append(slots, byte(128-len(tail)))
	}
	zeros := make([]byte, 122-len(slots)-len(tail))
	return summed(slices.Concat([]byte{kind, byte(len(l))}, slots, zeros, tail))
}

// paged is the cells of a page with a right sum; false: it is none.
func paged(b []byte) ([][]byte, bool) {
	n := int(b[5])
	if n > 122 {
		return nil, false
	}
	var l [][]byte
	end := 128
	for _, at := range b[6 : 6+n] {
		if int(at) > end {
			return nil, false
		}
		l = append(l, b[at:end])
		end = int(at)
	}
	if len(slices.Concat(l...))+n > 122 {
		return nil, false
	}
	return l, bytes.Equal(page(b[4], l), b) && b[4] != 0
}

// The node, done as the chapter says it.

func plainCells(n node.Node) [][]byte {
	var out [][]byte
	for _, e := range n.L {
		key := e.Key[:min(255, len(e.Key))]
		c := append([]byte{byte(len(key))}, key...)
		size, page := []byte{byte(e.Val.Size >> 8), byte(e.Val.Size)}, []byte{byte(e.Val.Page >> 8), byte(e.Val.Page)}
		switch {
		case !n.Leaf:
			c = append(c, page...)
		case e.Val.Far:
			c = slices.Concat(c, []byte{1}, size, page)
		default:
			c = append(append(c, 0), e.Val.Data...)
		}
		out = append(out, c)
	}
	return out
}

func plainCheck(n node.Node) bool {
	if n.Leaf && len(n.L) < 1 || !n.Leaf && len(n.L) < 2 {
		return false
	}
	size := 0
	for i, e := range n.L {
		v := e.Val
		inline := len(v.Data) <= 16 && !v.Far && v.Size == 0 && v.Page == 0
		far := v.Data == "" && v.Far && v.Size >= 17 && v.Size <= 400 && v.Page >= 2 && v.Page <= 999
		child := v.Data == "" && !v.Far && v.Size == 0 && v.Page >= 2 && v.Page <= 999
		if n.Leaf && !inline && !far || !n.Leaf && !child {
			return false
		}
		if first := !n.Leaf && i == 0; first && e.Key != "" || !first && (len(e.Key) < 1 || len(e.Key) > 16) {
			return false
		}
		if i > 0 && strings.Compare(n.L[i-1].Key, e.Key) >= 0 {
			return false
		}
		size += 1 + len(plainCells(n)[i])
	}
	return size <= 122
}

func plainPut(n node.Node) []byte {
	if n.Leaf {
		return page(1, plainCells(n))
	}
	return page(2, plainCells(n))
}

// plainEntry is the entry of a cell; false: no entry has it.
func plainEntry(leaf bool, c []byte) (e node.Entry, ok bool) {
	if len(c) < 1 || len(c) < 1+int(c[0]) {
		return e, false
	}
	e.Key, c = string(c[1:1+int(c[0])]), c[1+int(c[0]):]
	switch {
	case !leaf && len(c) == 2:
		e.Val.Page = int(c[0])*256 + int(c[1])
	case leaf && len(c) >= 1 && c[0] == 0:
		e.Val.Data = string(c[1:])
	case leaf && len(c) == 5 && c[0] == 1:
		e.Val = node.Val{Far: true, Size: int(c[1])*256 + int(c[2]), Page: int(c[3])*256 + int(c[4])}
	default:
		return e, false
	}
	return e, true
}

// plainGet is the node of a page with a right sum; false: it is none.
func plainGet(b []byte) (node.Node, bool) {
	l, ok := paged(b)
	if !ok || b[4] != 1 && b[4] != 2 {
		return node.Node{}, false
	}
	n := node.Node{Leaf: b[4] == 1}
	for _, c := range l {
		e, ok := plainEntry(n.Leaf, c)
		if !ok {
			return node.Node{}, false
		}
		n.L = append(n.L, e)
	}
	return n, plainCheck(n)
}

// Nodes.

// keys is so many keys of a size, in order.
func keys(n, size int) []string {
	var out []string
	for i := range n {
		out = append(out, text(size-1)+string([]byte{byte(100 + i)}))
	}
	return out
}

// kids is a branch whose keys have these sizes, but for the first one's.
func kids(sizes ...int) node.Node {
	n := branch(kid("", 2))
	for i, size := range sizes {
		n.L = append(n.L, kid(string([]byte{byte(i + 1)})+text(size-1), 3+i))
	}
	return n
}

// valid is leaves and branches that may be: ordinary ones, the edges, and many others.
func valid() []node.Node {
	k16, high := text(16), "\xff\xfe"
	out := []node.Node{
		leaf(in("k", "v")), leaf(in("k", "")), leaf(in("k", text(15))), leaf(in("k", text(16))), leaf(in(k16, text(16))), leaf(in("\x00", "\x00")), leaf(in("\xff", "\xff")),
		leaf(in("k", "\x00")), leaf(in("k", "\x01")), leaf(in("k", "\x00\x00")), leaf(in("k", "\x01\x00\x11\x00\x02")), leaf(in("k", "\x00\x11\x00\x02")),
		leaf(in("a", "1"), in("b", "2")), leaf(in("a", ""), in("aa", ""), in("aaa", ""), in("ab", "")), leaf(in("a", "x"), in("a\x00", "y")), leaf(in("a", "x"), in("a\xff", "y"), in("b", "")),
		leaf(in("\x00", ""), in("\x00\x00", "")), leaf(in("\x7f", ""), in("\x80", "")), leaf(in("a", ""), in("\xc3\xa9", ""), in(high, ""), in(high+"\xff", "")), leaf(in(text(15), ""), in(k16, "")),
		leaf(in("B", ""), in("a", "")), leaf(in("10", ""), in("9", "")),
		leaf(far("k", 17, 2)), leaf(far("k", 17, 999)), leaf(far("k", 400, 2)), leaf(far("k", 400, 999)), leaf(far(k16, 400, 999)), leaf(far("k", 18, 3)), leaf(far("k", 256, 256)), leaf(far("k", 255, 255)), leaf(far("k", 399, 998)),
		leaf(far("a", 17, 2), far("b", 17, 2)), leaf(in("a", "1"), far("b", 119, 7), in("c", ""), far("d", 120, 8)), leaf(far("a", 119, 7), in("b", "1")),
		branch(kid("", 2), kid("k", 3)), branch(kid("", 2), kid("k", 2)), branch(kid("", 999), kid("k", 2)), branch(kid("", 2), kid("k", 999)), branch(kid("", 255), kid("k", 256)), branch(kid("", 5), kid(k16, 6)),
		branch(kid("", 998), kid("\x00", 3)), branch(kid("", 9), kid("\xff", 3), kid("\xff\xff", 4)), branch(kid("", 9), kid("a", 8), kid("aa", 7), kid("ab", 6), kid("b", 5)), branch(kid("", 9), kid("a", 8), kid("\x80", 7)),
	}
	// As many entries as there can be, and entries of each size.
	small := leaf()
	for _, k := range keys(30, 1) {
		small.L = append(small.L, in(k, ""))
	}
	out = append(out, small, kids(slices.Repeat([]int{1}, 23)...))
	for size := range 16 {
		for data := range 17 {
			out = append(out, leaf(in(text(size+1), text(data))))
		}
		out = append(out, leaf(far(text(size+1), 17+size, 2+size)), kids(size+1), kids(size+1, 17-size-1))
	}
	for size := 17; size <= 400; size++ {
		out = append(out, leaf(far("k", size, size)), branch(kid("", size), kid("k", 1001-size)))
	}
	for page := 2; page <= 999; page++ {
		out = append(out, leaf(far("k", 17, page)), branch(kid("", page), kid("k", 1001-page)))
	}
	roll := dice(5)
	for range 3000 {
		if n := some(roll); plainCheck(n) {
			out = append(out, n)
		}
	}
	return append(out, just()...)
}

// just is nodes that fill the 122 bytes just so.
func just() []node.Node {
	entries := func(sizes ...[2]int) node.Node { // the sizes of key and value
		n := leaf()
		for i, s := range sizes {
			n.L = append(n.L, in(string([]byte{byte(i + 1)})+text(s[0]-1), text(s[1])))
		}
		return n
	}
	full := slices.Repeat([][2]int{{16, 16}}, 3) // 105 bytes
	ones := slices.Repeat([][2]int{{1, 0}}, 29)  // 116 bytes
	out := []node.Node{
		entries(append(full, [2]int{14, 0})...), entries(append(full, [2]int{1, 13})...), entries(append([][2]int{{7, 7}}, full...)...), entries(append(ones, [2]int{1, 2})...), entries(append(ones, [2]int{3, 0})...),
		kids(16, 16, 16, 16, 16, 14), kids(15, 15, 16, 16, 16, 16), kids(12, 13, 13, 13, 13, 13, 13), kids(append(slices.Repeat([]int{1}, 22), 4)...), kids(append([]int{4}, slices.Repeat([]int{1}, 22)...)...),
	}
	f := leaf(far("a"+text(15), 17, 2), far("b"+text(15), 400, 999), far("c"+text(15), 18, 3), far("d"+text(15), 19, 4)) // 92 bytes
	out = append(out, leaf(append(slices.Clone(f.L), far("e"+text(14), 20, 5), in("f", "four"))...), leaf(append(slices.Clone(f.L), far("e"+text(11), 20, 5), in("f"+text(6), "1"))...))
	return out
}

// some is a node for each seed; few of those with many entries may be.
func some(roll func(int) int) node.Node {
	n := node.Node{Leaf: roll(2) == 0}
	key := ""
	for i := range 1 + roll(12) {
		if n.Leaf || i > 0 {
			key = next(roll, key)
		}
		v := node.Val{Data: text(roll(17))}
		if !n.Leaf {
			v = node.Val{Page: 2 + roll(998)}
		} else if roll(2) == 0 {
			v = node.Val{Far: true, Size: 17 + roll(384), Page: 2 + roll(998)}
		}
		n.L = append(n.L, node.Entry{Key: key, Val: v})
	}
	return n
}

// next is a key that is greater than one.
func next(roll func(int) int, key string) string {
	if key == "" || roll(2) == 0 && len(key) < 14 {
		return key + string([]byte{byte(roll(256)), byte(roll(256))}[:1+roll(2)])
	}
	cut := roll(len(key))
	if key[cut] == 255 {
		return next(roll, key[:min(len(key), 8)]+text(roll(3)))
	}
	return key[:cut] + string([]byte{key[cut] + 1 + byte(roll(int(255-key[cut])))})
}

// wrongLeafVals is values that no leaf may have.
func wrongLeafVals() []node.Val {
	out := []node.Val{
		{Data: text(17)}, {Data: text(18)}, {Data: text(400)}, {Data: text(401)}, {Data: text(1 << 16)},
		{Data: "v", Size: 1}, {Data: "v", Page: 2}, {Data: "v", Size: 17, Page: 2}, {Size: 17}, {Page: 2}, {Size: 17, Page: 2}, {Size: -1}, {Page: -1}, {Size: 1 << 16}, {Page: 1 << 16},
		{Data: text(16), Size: 16}, {Data: text(17), Size: 17, Page: 2}, {Page: 1}, {Size: 1},
		{Far: true}, {Far: true, Size: 17}, {Far: true, Page: 2}, {Data: "v", Far: true}, {Data: "v", Far: true, Size: 17, Page: 2}, {Data: "\x00", Far: true, Size: 400, Page: 999}, {Data: text(17), Far: true, Size: 17, Page: 2},
		{Data: text(1), Far: true, Size: 1, Page: 2},
	}
	for _, size := range []int{-1, 0, 1, 15, 16, 401, 402, 1 << 16, 1<<16 + 17, 1<<32 + 17, math.MaxInt, math.MinInt, math.MinInt + 17, -17} {
		out = append(out, node.Val{Far: true, Size: size, Page: 2}, node.Val{Far: true, Size: size, Page: 999})
	}
	for _, page := range wrongPages() {
		out = append(out, node.Val{Far: true, Size: 17, Page: page}, node.Val{Far: true, Size: 400, Page: page})
	}
	return out
}

// wrongKidVals is values that no branch may have.
func wrongKidVals() []node.Val {
	out := []node.Val{
		{}, {Data: "v"}, {Data: "v", Page: 2}, {Data: "\x00", Page: 999}, {Far: true}, {Far: true, Page: 2}, {Size: 17}, {Size: 1, Page: 2}, {Size: -1, Page: 2}, {Size: 1 << 16, Page: 2},
		{Size: 17, Page: 2}, {Far: true, Size: 17, Page: 2}, {Data: "v", Far: true, Size: 17, Page: 2}, {Data: text(17), Page: 2},
	}
	for _, page := range wrongPages() {
		out = append(out, node.Val{Page: page})
	}
	return out
}

// wrongPages is numbers of pages that no node may point to.
func wrongPages() []int {
	return []int{-1, 0, 1, 1000, 1001, 1024, 1 << 16, 1<<16 + 2, 1<<32 + 2, math.MaxInt, math.MinInt, math.MinInt + 2, -2, -999}
}

// invalid is nodes that may not be; each is told why.
func invalid() map[string]node.Node {
	k17 := text(17)
	out := map[string]node.Node{
		"nothing": {}, "a leaf without entries": leaf(), "a branch without entries": branch(), "a leaf with an empty list": {Leaf: true, L: []node.Entry{}}, "a branch with an empty list": {L: []node.Entry{}},
		"a branch of one kid": branch(kid("", 2)), "a branch of one kid with a key": branch(kid("k", 2)),
		"a leaf with an empty key": leaf(in("", "v")), "a leaf with an empty key ahead": leaf(in("", ""), in("k", "")), "a leaf with an empty key behind": leaf(in("k", ""), in("", "")), "a leaf with an empty key and a far value": leaf(far("", 17, 2)),
		"a leaf with two empty keys": leaf(in("", ""), in("", "")),
		"a key of 17 bytes":          leaf(in(k17, "v")), "a key of 17 bytes and a far value": leaf(far(k17, 17, 2)), "a second key of 17 bytes": leaf(in("a", ""), in(k17, "")), "a kid's key of 17 bytes": branch(kid("", 2), kid(k17, 3)), "a third kid's key of 17 bytes": branch(kid("", 2), kid("a", 3), kid(k17, 4)),
		"a key of 255 bytes": leaf(in(text(255), "")), "a key of 256 bytes": leaf(in(text(256), "")), "a key of 272 bytes": leaf(in(text(272), "")), "a kid's key of 257 bytes": branch(kid("", 2), kid(text(257), 3)),
		"equal keys": leaf(in("k", "a"), in("k", "b")), "equal entries": leaf(in("k", "a"), in("k", "a")), "equal keys behind another": leaf(in("a", ""), in("k", ""), in("k", "")), "equal kids' keys": branch(kid("", 2), kid("k", 3), kid("k", 4)),
		"equal keys of 16 bytes": leaf(in(text(16), ""), far(text(16), 17, 2)),
		"a lesser key":           leaf(in("b", ""), in("a", "")), "a lesser kid's key": branch(kid("", 2), kid("b", 3), kid("a", 4)), "a lesser last key": leaf(in("a", ""), in("c", ""), in("b", "")), "a lesser first key": leaf(in("b", ""), in("a", ""), in("c", "")),
		"a key behind one that begins with it": leaf(in("aa", ""), in("a", "")), "a kid's key behind one that begins with it": branch(kid("", 2), kid("a\x00", 3), kid("a", 4)),
		"a key above 127 ahead of one below": leaf(in("\x80", ""), in("\x7f", "")), "a kid's key above 127 ahead of one below": branch(kid("", 2), kid("\xff", 3), kid("a", 4)), "a long key ahead of a lesser short one": leaf(in("b", ""), in("aaaa", "")),
		"a first kid with a key": branch(kid("a", 2), kid("b", 3)), "a first kid with a key of 0": branch(kid("\x00", 2), kid("b", 3)), "two first kids": branch(kid("", 2), kid("", 3)), "a kid without a key behind others": branch(kid("", 2), kid("a", 3), kid("", 4)),
		"two first kids ahead of one":  branch(kid("", 2), kid("", 3), kid("a", 4)),
		"a first kid that isn't ahead": branch(kid("a", 2), kid("", 3)),
	}
	for i, v := range wrongLeafVals() {
		why := "a leaf's value " + string([]byte{byte('a' + i/26), byte('a' + i%26)})
		e := node.Entry{Key: "k", Val: v}
		out[why], out[why+" ahead"], out[why+" behind"] = leaf(e), leaf(e, in("l", "")), leaf(in("a", ""), far("b", 17, 2), e)
	}
	for i, v := range wrongKidVals() {
		why := "a kid's value " + string([]byte{byte('a' + i/26), byte('a' + i%26)})
		out[why], out[why+" ahead"], out[why+" behind"] = branch(kid("", 2), node.Entry{Key: "k", Val: v}), branch(node.Entry{Val: v}, kid("k", 3)), branch(kid("", 2), kid("a", 3), node.Entry{Key: "k", Val: v})
		out[why+" between"] = branch(kid("", 2), node.Entry{Key: "k", Val: v}, kid("l", 3))
	}
	return out
}

// over is nodes that have one byte too many, but are else valid.
func over() []node.Node {
	var out []node.Node
	for _, n := range just() {
		for i, e := range n.L {
			more := copied(n)
			if len(e.Key) > 0 && len(e.Key) < 16 {
				more.L[i].Key += "x"
				out = append(out, more)
			}
			more = copied(n)
			if n.Leaf && !e.Val.Far && len(e.Val.Data) < 16 {
				more.L[i].Val.Data += "x"
				out = append(out, more)
			}
		}
	}
	most := leaf()
	for _, k := range keys(31, 1) {
		most.L = append(most.L, in(k, ""))
	}
	out = append(out, most, kids(slices.Repeat([]int{1}, 24)...))
	for n := 32; n < 155; n++ { // numbers too of cells that there can be no slots for
		l := leaf()
		for _, k := range keys(n, 2) {
			l.L = append(l.L, in(k, text(n%17)))
		}
		out = append(out, l, kids(slices.Repeat([]int{1}, n)...))
	}
	return out
}

// P8.1

func TestExample(t *testing.T) {
	if got := node.Cells(leaf(in("k", "v"))); !sameCells(got, [][]byte{{1, 107, 0, 118}}) {
		t.Errorf("Cells of k, v = %#v", got)
	}
}

// TestCellsKnown has cells that are written out.
func TestCellsKnown(t *testing.T) {
	for _, x := range []struct {
		n    node.Node
		want []string
	}{
		{leaf(), nil}, {branch(), nil}, {node.Node{Leaf: true, L: []node.Entry{}}, nil},
		{leaf(in("k", "")), []string{"01 6b 00"}},
		{leaf(in("", "")), []string{"00 00"}},
		{leaf(in("", "v")), []string{"00 00 76"}},
		{leaf(in("ab", "cd"), in("b", "")), []string{"02 61 62 00 63 64", "01 62 00"}},
		{leaf(in("b", ""), in("ab", "cd")), []string{"01 62 00", "02 61 62 00 63 64"}},
		{leaf(in("\xff\x80", "\x00\x01")), []string{"02 ff 80 00 00 01"}},
		{leaf(far("k", 17, 2)), []string{"01 6b 01 00 11 00 02"}},
		{leaf(far("k", 400, 999)), []string{"01 6b 01 01 90 03 e7"}},
		{leaf(far("k", 0, 0)), []string{"01 6b 01 00 00 00 00"}},
		{leaf(far("k", 0x1234, 0xabcd)), []string{"01 6b 01 12 34 ab cd"}},
		{leaf(in("a", "1"), far("b", 258, 772)), []string{"01 61 00 31", "01 62 01 01 02 03 04"}},
		{branch(kid("", 2), kid("k", 999)), []string{"00 00 02", "01 6b 03 e7"}},
		{branch(kid("ab", 0x1234)), []string{"02 61 62 12 34"}},
		{branch(kid("b", 0), kid("", 1)), []string{"01 62 00 00", "00 00 01"}},
		// Fields that have no place in their cell.
		{leaf(node.Entry{Key: "k", Val: node.Val{Data: "v", Size: 17, Page: 2}}), []string{"01 6b 00 76"}},
		{leaf(node.Entry{Key: "k", Val: node.Val{Size: 17, Page: 2}}), []string{"01 6b 00"}},
		{leaf(node.Entry{Key: "k", Val: node.Val{Data: "v", Far: true, Size: 17, Page: 2}}), []string{"01 6b 01 00 11 00 02"}},
		{branch(node.Entry{Key: "k", Val: node.Val{Data: "v", Far: true, Size: 17, Page: 2}}), []string{"01 6b 00 02"}},
		{branch(in("k", "v")), []string{"01 6b 00 00"}},
		{branch(far("k", 17, 2)), []string{"01 6b 00 02"}},
	} {
		var want [][]byte
		for _, s := range x.want {
			want = append(want, fromHex(t, s))
		}
		if got := node.Cells(x.n); !sameCells(got, want) {
			t.Errorf("Cells(%#v) = %x, want %x", x.n, got, want)
		}
	}
}

// TestCellsOfNumbers has numbers that don't go into two bytes: the lowest two of theirs are told.
func TestCellsOfNumbers(t *testing.T) {
	for _, x := range []struct {
		number    int
		high, low byte
	}{
		{0, 0, 0}, {1, 0, 1}, {255, 0, 255}, {256, 1, 0}, {65535, 255, 255}, {65536, 0, 0}, {65537, 0, 1}, {1<<32 + 258, 1, 2}, {1<<62 + 3, 0, 3},
		{-1, 255, 255}, {-2, 255, 254}, {-256, 255, 0}, {-257, 254, 255}, {-65536, 0, 0}, {math.MaxInt, 255, 255}, {math.MinInt, 0, 0}, {math.MinInt + 5, 0, 5},
	} {
		for _, y := range []struct {
			n    node.Node
			want []byte
		}{
			{leaf(far("k", x.number, 772)), []byte{1, 'k', 1, x.high, x.low, 3, 4}},
			{leaf(far("k", 772, x.number)), []byte{1, 'k', 1, 3, 4, x.high, x.low}},
			{branch(kid("k", x.number)), []byte{1, 'k', x.high, x.low}},
		} {
			if got := node.Cells(y.n); !sameCells(got, [][]byte{y.want}) {
				t.Errorf("Cells(%#v) = %x, want %x", y.n, got, y.want)
			}
		}
	}
}

// TestCellsOfLongTexts has keys of which a length byte can't tell the length, and inline values of any.
func TestCellsOfLongTexts(t *testing.T) {
	for _, size := range []int{16, 17, 18, 122, 254, 255, 256, 257, 300, 511, 512, 70000} {
		key, told := strings.Repeat("abc", size)[:size], strings.Repeat("abc", size)[:min(size, 255)]
		for _, x := range []struct {
			n    node.Node
			want string
		}{
			{leaf(in(key, "v")), "\x00v"}, {leaf(far(key, 17, 2)), "\x01\x00\x11\x00\x02"}, {branch(kid(key, 3)), "\x00\x03"}, {leaf(in(key, key)), "\x00" + key},
		} {
			want := string([]byte{byte(len(told))}) + told + x.want
			if got := node.Cells(x.n); !sameCells(got, [][]byte{[]byte(want)}) {
				t.Errorf("Cells of a key of %d bytes = %x, want %x", size, got, want)
			}
		}
	}
}

// all is nodes of each kind, valid or not, and each with its entries as the other kind's.
func all() []node.Node {
	out := slices.Concat(valid(), over())
	for _, n := range invalid() {
		out = append(out, n)
	}
	for _, n := range out[:len(out):len(out)] {
		out = append(out, flipped(n))
	}
	return out
}

func TestCells(t *testing.T) {
	for _, n := range all() {
		if got, want := node.Cells(n), plainCells(n); !sameCells(got, want) {
			t.Errorf("Cells(%#v) = %x, want %x", n, got, want)
		}
	}
}

func TestNilIsEmpty(t *testing.T) {
	for _, leaf := range []bool{false, true} {
		for _, l := range [][]node.Entry{nil, {}} {
			n := node.Node{Leaf: leaf, L: l}
			if got := node.Cells(n); len(got) != 0 || node.Check(n) {
				t.Errorf("Cells(%#v) = %x", n, got)
			}
			notPut(t, n)
		}
	}
}

// P8.2

// notPut holds that Put has ErrArg, and nothing beside it.
func notPut(t *testing.T, n node.Node) {
	t.Helper()
	if b, e := node.Put(n); e != api.ErrArg || len(b) != 0 {
		t.Errorf("Put(%#v) = %x, %d, want ErrArg", n, b, e)
	}
}

// put is the page of a node that may be.
func put(t *testing.T, n node.Node) []byte {
	t.Helper()
	b, e := node.Put(n)
	if e != api.OK || len(b) != 128 {
		t.Fatalf("Put(%#v) = %x, %d", n, b, e)
	}
	return b
}

// gets holds what Get tells.
func gets(t *testing.T, b []byte, want node.Node) {
	t.Helper()
	if n, e := node.Get(b); e != api.OK || !same(n, want) {
		t.Errorf("Get(%x) = %#v, %d, want %#v", b, n, e, want)
	}
}

// refused holds that Get has an error, and nothing beside it.
func refused(t *testing.T, b []byte, want api.Errno) {
	t.Helper()
	if n, e := node.Get(b); e != want || n.Leaf || len(n.L) != 0 {
		t.Errorf("Get(%x) = %#v, %d, want error %d", b, n, e, want)
	}
}

func TestTheTestsNodes(t *testing.T) {
	for _, n := range just() {
		if size := len(slices.Concat(plainCells(n)...)) + len(n.L); size != 122 {
			t.Errorf("the size of %#v is %d", n, size)
		}
	}
	few := 0
	for _, n := range over() {
		size := len(slices.Concat(plainCells(n)...)) + len(n.L)
		if size == 123 {
			few++
		}
		if size <= 122 {
			t.Errorf("the size of %#v is %d", n, size)
		}
	}
	if few < 50 {
		t.Errorf("%d nodes with a byte too many", few)
	}
	leaves, large := 0, 0
	for _, n := range valid() {
		if n.Leaf {
			leaves++
		}
		if len(n.L) > 3 {
			large++
		}
		if !plainCheck(n) {
			t.Errorf("%#v is not valid", n)
		}
	}
	if leaves < 1000 || len(valid())-leaves < 1000 || large < 500 {
		t.Errorf("%d leaves of %d nodes, %d of more than 3 entries", leaves, len(valid()), large)
	}
}

func TestCheck(t *testing.T) {
	for _, n := range valid() {
		if !node.Check(n) {
			t.Errorf("Check(%#v) = false", n)
		}
	}
	for why, n := range invalid() {
		if node.Check(n) {
			t.Errorf("Check of %s, %#v, = true", why, n)
		}
	}
	for _, n := range all() {
		if want := plainCheck(n); node.Check(n) != want {
			t.Errorf("Check(%#v) = %#v", n, !want)
		}
	}
}

func TestCheckOfRoom(t *testing.T) {
	for _, n := range just() {
		if !node.Check(n) {
			t.Errorf("Check(%#v) = false", n)
		}
		gets(t, put(t, n), n)
	}
	for _, n := range over() {
		if node.Check(n) {
			t.Errorf("Check(%#v) = true", n)
		}
		notPut(t, n)
	}
}

// TestCheckOfKeys has all rows of up to three keys, of keys that are of each size named, begin with each other, or have bytes above 127.
func TestCheckOfKeys(t *testing.T) {
	some := []string{"", "\x00", "a", "aa", "b", "\x7f", "\x80", "\xff", "\xff\xff", text(15), text(16), text(17), text(16) + "\xff"}
	for _, a := range some {
		checked(t, leaf(in(a, "v")))
		checked(t, branch(kid(a, 2)))
		for _, b := range some {
			checked(t, leaf(in(a, "v"), far(b, 17, 2)))
			checked(t, branch(kid(a, 2), kid(b, 3)))
			for _, c := range some {
				checked(t, leaf(in(a, "v"), far(b, 17, 2), in(c, "")))
				checked(t, branch(kid(a, 2), kid(b, 3), kid(c, 4)))
				checked(t, branch(kid("", 2), kid(a, 2), kid(b, 3), kid(c, 4)))
			}
		}
	}
}

// checked holds what Check, Put and Get tell of a node.
func checked(t *testing.T, n node.Node) {
	t.Helper()
	want := plainCheck(n)
	if node.Check(n) != want {
		t.Errorf("Check(%#v) = %#v", n, !want)
	}
	if !want {
		notPut(t, n)
		return
	}
	b := put(t, n)
	if !bytes.Equal(b, plainPut(n)) {
		t.Errorf("Put(%#v) = %x, want %x", n, b, plainPut(n))
	}
	gets(t, b, n)
}

// TestCheckOfVals has each value of some sizes and pages, far or not, with data or not, in leaves and branches.
func TestCheckOfVals(t *testing.T) {
	for _, data := range []string{"", "\x00", "v", text(15), text(16), text(17), text(18)} {
		for _, far := range []bool{false, true} {
			for _, size := range []int{-1, 0, 1, 2, 15, 16, 17, 18, 399, 400, 401, 1<<16 + 17} {
				for _, page := range []int{-1, 0, 1, 2, 3, 998, 999, 1000, 1<<16 + 2} {
					v := node.Val{Data: data, Far: far, Size: size, Page: page}
					checked(t, leaf(node.Entry{Key: "k", Val: v}))
					checked(t, leaf(in("a", "1"), node.Entry{Key: "k", Val: v}))
					checked(t, branch(node.Entry{Val: v}, kid("k", 2)))
					checked(t, branch(kid("", 2), node.Entry{Key: "k", Val: v}))
				}
			}
		}
	}
}

func TestCheckOfEachNumber(t *testing.T) {
	for x := -2; x < 70000; x++ {
		if want := 17 <= x && x <= 400; node.Check(leaf(far("k", x, 2))) != want {
			t.Errorf("Check of a value of %d bytes = %#v", x, !want)
		}
		if want := 2 <= x && x <= 999; node.Check(leaf(far("k", 17, x))) != want || node.Check(branch(kid("", 2), kid("k", x))) != want || node.Check(branch(kid("", x), kid("k", 2))) != want {
			t.Errorf("Check of page %d isn't %#v", x, want)
		}
	}
}

func TestCheckOfWildNodes(t *testing.T) {
	roll := dice(9)
	for range 20000 {
		n := some(roll)
		for range roll(3) {
			e := &n.L[roll(len(n.L))]
			switch roll(6) {
			case 0:
				e.Key = []string{"", "a", text(17), n.L[roll(len(n.L))].Key}[roll(4)]
			case 1:
				e.Val.Data = text(roll(20))
			case 2:
				e.Val.Far = !e.Val.Far
			case 3:
				e.Val.Size = roll(450)
			case 4:
				e.Val.Page = roll(1100)
			default:
				n.Leaf = !n.Leaf
			}
		}
		checked(t, n)
	}
}

// TestPutKnown has pages that are written out, but for the zeros and the sum.
func TestPutKnown(t *testing.T) {
	for _, x := range []struct {
		n          node.Node
		head, tail string // behind the sum, and at the very end
	}{
		{leaf(in("k", "v")), "01 01 7c", "01 6b 00 76"},
		{leaf(in("a", ""), far("b", 400, 999)), "01 02 7d 76", "01 62 01 01 90 03 e7 01 61 00"},
		{branch(kid("", 2), kid("k", 999)), "02 02 7d 79", "01 6b 03 e7 00 00 02"},
	} {
		head, tail := fromHex(t, x.head), fromHex(t, x.tail)
		want := summed(slices.Concat(head, make([]byte, 124-len(head)-len(tail)), tail))
		if got := put(t, x.n); !bytes.Equal(got, want) {
			t.Errorf("Put(%#v) = %x, want %x", x.n, got, want)
		}
		gets(t, want, x.n)
	}
}

func TestPut(t *testing.T) {
	for _, n := range valid() {
		if got, want := put(t, n), plainPut(n); !bytes.Equal(got, want) {
			t.Errorf("Put(%#v) = %x, want %x", n, got, want)
		}
	}
	for _, n := range invalid() {
		notPut(t, n)
	}
	for _, n := range all() {
		if !plainCheck(n) {
			notPut(t, n)
		}
	}
}

func TestGet(t *testing.T) {
	for _, n := range valid() {
		gets(t, plainPut(n), n)
	}
}

func TestGetOfWrongLength(t *testing.T) {
	refused(t, nil, api.ErrArg)
	for size := range 400 {
		if size != 128 {
			refused(t, make([]byte, size), api.ErrArg)
			refused(t, []byte(text(size)), api.ErrArg)
		}
	}
	for _, n := range []node.Node{leaf(in("k", "v")), branch(kid("", 2), kid("k", 3)), just()[0]} {
		b := plainPut(n)
		for _, c := range [][]byte{b[:127], b[1:], b[4:], append(bytes.Clone(b), 0), slices.Concat(b, b), resummed(b[:127]), resummed(append(bytes.Clone(b), 0))} {
			refused(t, c, api.ErrArg)
		}
		gets(t, append(bytes.Clone(b), "more"...)[:128], n)
	}
}

func TestGetOfAWrongSum(t *testing.T) {
	refused(t, make([]byte, 128), api.ErrSum)
	refused(t, []byte(text(128)), api.ErrSum)
	for _, n := range []node.Node{leaf(in("k", "v")), leaf(far("k", 17, 2)), branch(kid("", 2), kid("k", 3)), just()[0]} {
		b := plainPut(n)
		for bit := range 8 * 128 {
			b[bit/8] ^= 1 << (bit % 8)
			refused(t, b, api.ErrSum)
			b[bit/8] ^= 1 << (bit % 8)
		}
	}
}

// TestGetOfNoPage has a right sum ahead of bytes that are no cells.
func TestGetOfNoPage(t *testing.T) {
	for _, n := range []node.Node{leaf(in("k", "v")), branch(kid("", 2), kid("k", 3))} {
		for at, c := range map[int]byte{4: 0, 5: 123, 6: 129, 20: 1} {
			b := plainPut(n)
			b[at] = c
			refused(t, resummed(b), api.ErrForm)
		}
	}
	refused(t, resummed(make([]byte, 128)), api.ErrForm)
	refused(t, resummed([]byte(text(128))), api.ErrForm)
}

// TestGetOfEachKind has the cells of leaves and branches, and others, under each kind.
func TestGetOfEachKind(t *testing.T) {
	lists := [][][]byte{nil, {nil}, {{0}}, {[]byte("cell")}}
	for _, n := range []node.Node{leaf(in("k", "v")), leaf(far("k", 17, 2)), leaf(in("a", ""), far("b", 400, 999)), branch(kid("", 2), kid("k", 3)), branch(kid("", 2), kid("k", 3), kid("l", 4)), just()[0], just()[5]} {
		lists = append(lists, plainCells(n))
		for kind := 3; kind < 256; kind++ {
			refused(t, page(byte(kind), plainCells(n)), api.ErrForm)
		}
		refused(t, page(0, plainCells(n)), api.ErrForm)
		if n.Leaf {
			refused(t, page(2, plainCells(n)), api.ErrForm)
			gets(t, page(1, plainCells(n)), n)
		} else {
			refused(t, page(1, plainCells(n)), api.ErrForm)
			gets(t, page(2, plainCells(n)), n)
		}
	}
	for _, l := range lists {
		for kind := range 256 {
			judged(t, page(byte(kind), l))
		}
	}
}

func TestGetOfTheOtherKind(t *testing.T) {
	for _, n := range valid() {
		b := plainPut(n)
		b[4] = 3 - b[4]
		refused(t, resummed(b), api.ErrForm)
	}
}

// judged holds that Get tells of a page with a right sum what the chapter says.
func judged(t *testing.T, b []byte) {
	t.Helper()
	n, ok := plainGet(b)
	if ok && !bytes.Equal(plainPut(n), b) {
		t.Fatalf("the test's own Get is wrong on %x", b)
	}
	if ok {
		gets(t, b, n)
	} else {
		refused(t, b, api.ErrForm)
	}
}

// TestGetOfCellsThatPutNeverWrites has cells that are written out.
func TestGetOfCellsThatPutNeverWrites(t *testing.T) {
	for _, x := range []struct {
		why  string
		kind byte
		l    []string
	}{
		{"a leaf of no cells", 1, nil},
		{"a branch of no cells", 2, nil},
		{"an empty cell", 1, []string{""}},
		{"an empty cell behind another", 1, []string{"01 6b 00 76", ""}},
		{"an empty cell ahead of another", 1, []string{"", "01 6b 00 76"}},
		{"an empty kid", 2, []string{"00 00 02", ""}},
		{"an empty first kid", 2, []string{"", "01 6b 00 03"}},
		{"an empty key", 1, []string{"00 00 76"}},
		{"an empty key and a far value", 1, []string{"00 01 00 11 00 02"}},
		{"a key that ends too early", 1, []string{"02 6b"}},
		{"a key and value that end too early", 1, []string{"05 6b 00 76"}},
		{"a key alone", 1, []string{"01 6b"}},
		{"a key of 17 bytes", 1, []string{"11" + strings.Repeat("78", 17) + "00"}},
		{"a key longer than the page", 1, []string{"ff 6b 00 76"}},
		{"a value's first byte of 2", 1, []string{"01 6b 02 76"}},
		{"a value's first byte of 2 and a far value", 1, []string{"01 6b 02 00 11 00 02"}},
		{"a value's first byte of 128", 1, []string{"01 6b 80 00 11 00 02"}},
		{"a value's first byte of 255", 1, []string{"01 6b ff 76"}},
		{"a value's first byte of 255 and a far value", 1, []string{"01 6b ff 00 11 00 02"}},
		{"an inline value of 17 bytes", 1, []string{"01 6b 00" + strings.Repeat("76", 17)}},
		{"a far value without anything", 1, []string{"01 6b 01"}},
		{"a far value with a byte", 1, []string{"01 6b 01 00"}},
		{"a far value with a size alone", 1, []string{"01 6b 01 00 11"}},
		{"a far value cut short", 1, []string{"01 6b 01 00 11 00"}},
		{"a far value that goes on", 1, []string{"01 6b 01 00 11 00 02 00"}},
		{"a far value that goes on for long", 1, []string{"01 6b 01 00 11 00 02 00 02"}},
		{"a far value of size 0", 1, []string{"01 6b 01 00 00 00 02"}},
		{"a far value of size 16", 1, []string{"01 6b 01 00 10 00 02"}},
		{"a far value of size 401", 1, []string{"01 6b 01 01 91 00 02"}},
		{"a far value of size 65535", 1, []string{"01 6b 01 ff ff 00 02"}},
		{"a far value at page 0", 1, []string{"01 6b 01 00 11 00 00"}},
		{"a far value at page 1", 1, []string{"01 6b 01 00 11 00 01"}},
		{"a far value at page 1000", 1, []string{"01 6b 01 00 11 03 e8"}},
		{"a far value at page 65535", 1, []string{"01 6b 01 00 11 ff ff"}},
		{"equal keys", 1, []string{"01 6b 00 61", "01 6b 00 62"}},
		{"a lesser key", 1, []string{"01 6c 00", "01 6b 00"}},
		{"a key above 127 ahead of one below", 1, []string{"01 80 00", "01 7f 00"}},
		{"a key behind one that begins with it", 1, []string{"02 6b 6b 00", "01 6b 00"}},
		{"one kid", 2, []string{"00 00 02"}},
		{"one kid with a key", 2, []string{"01 6b 00 02"}},
		{"a first kid with a key", 2, []string{"01 6a 00 02", "01 6b 00 03"}},
		{"two first kids", 2, []string{"00 00 02", "00 00 03"}},
		{"a kid cut short", 2, []string{"00 00 02", "01 6b 03"}},
		{"a kid without a page", 2, []string{"00 00 02", "01 6b"}},
		{"a kid whose key ends too early", 2, []string{"00 00 02", "03 6b 00"}},
		{"a first kid cut short", 2, []string{"00 02", "01 6b 00 03"}},
		{"a first kid that goes on", 2, []string{"00 00 02 00", "01 6b 00 03"}},
		{"a kid that goes on", 2, []string{"00 00 02", "01 6b 00 03 00"}},
		{"a kid at page 0", 2, []string{"00 00 02", "01 6b 00 00"}},
		{"a kid at page 1", 2, []string{"00 00 02", "01 6b 00 01"}},
		{"a kid at page 1000", 2, []string{"00 00 02", "01 6b 03 e8"}},
		{"a first kid at page 1", 2, []string{"00 00 01", "01 6b 00 03"}},
		{"a first kid at page 1000", 2, []string{"00 03 e8", "01 6b 00 03"}},
		{"equal kids' keys", 2, []string{"00 00 02", "01 6b 00 03", "01 6b 00 04"}},
		{"a lesser kid's key", 2, []string{"00 00 02", "01 6c 00 03", "01 6b 00 04"}},
		{"a kid's key of 17 bytes", 2, []string{"00 00 02", "11" + strings.Repeat("78", 17) + "00 03"}},
	} {
		var l [][]byte
		for _, s := range x.l {
			l = append(l, fromHex(t, s))
		}
		if n, e := node.Get(page(x.kind, l)); e != api.ErrForm || n.Leaf || len(n.L) != 0 {
			t.Errorf("Get of %s = %#v, %d, want ErrForm", x.why, n, e)
		}
	}
}

// TestGetOfInvalid has the pages of nodes that may not be, as far as a page has room.
func TestGetOfInvalid(t *testing.T) {
	for why, n := range invalid() {
		if len(slices.Concat(plainCells(n)...))+len(n.L) > 122 {
			continue
		}
		b := plainPut(n)
		if _, ok := plainGet(b); ok {
			continue // a number that went into two bytes became another one, or a field without a place was left out
		}
		if got, e := node.Get(b); e != api.ErrForm || got.Leaf || len(got.L) != 0 {
			t.Errorf("Get of %s = %#v, %d, want ErrForm", why, got, e)
		}
	}
}

// TestGetOfEachChangedByte has pages of which one byte is another one, behind a right sum.
func TestGetOfEachChangedByte(t *testing.T) {
	for _, n := range []node.Node{
		leaf(in("k", "v")), leaf(in("k", "")), leaf(far("k", 17, 2)), leaf(far("k", 400, 999)), leaf(in("a", "1"), far("b", 119, 7), in("bc", "")), just()[0],
		branch(kid("", 2), kid("k", 3)), branch(kid("", 999), kid("a", 255), kid("ab", 256)), just()[5],
	} {
		b := plainPut(n)
		for i := 4; i < 128; i++ {
			was := b[i]
			for c := range 256 {
				b[i] = byte(c)
				judged(t, resummed(b))
			}
			b[i] = was
		}
	}
}

// TestGetOfLongerAndShorterCells has each cell cut to each length, or followed by a byte.
func TestGetOfLongerAndShorterCells(t *testing.T) {
	for _, n := range []node.Node{leaf(in("k", "v")), leaf(far("k", 17, 2)), leaf(in("a", "12"), far("bcd", 119, 7), in("c", "")), branch(kid("", 2), kid("k", 3)), branch(kid("", 515), kid("abc", 770), kid("b", 257))} {
		for i, c := range plainCells(n) {
			for size := range len(c) {
				l := plainCells(n)
				l[i] = c[:size]
				judged(t, page(1, l))
				judged(t, page(2, l))
				l[i] = c[size:]
				judged(t, page(1, l))
				judged(t, page(2, l))
			}
			for more := range 256 {
				l := plainCells(n)
				l[i] = append(c[:len(c):len(c)], byte(more))
				judged(t, page(1, l))
				judged(t, page(2, l))
			}
		}
	}
}

func TestGetOfWildCells(t *testing.T) {
	roll := dice(3)
	may := 0
	for range 60000 {
		var l [][]byte
		for range roll(4) {
			key := []byte{byte('a' + roll(3)), byte('a' + roll(3))}[:roll(3)]
			c := append([]byte{byte(len(key))}, key...)
			for range roll(6) {
				c = append(c, byte(roll(4)))
			}
			if roll(8) == 0 {
				c[roll(len(c))] = byte(roll(256))
			}
			l = append(l, c)
		}
		b := page(byte(1+roll(2)), l)
		if _, ok := plainGet(b); ok {
			may++
		}
		judged(t, b)
	}
	if may < 1000 {
		t.Errorf("%d nodes among them", may)
	}
}

// TestOrderOfErrors has bytes with several faults.
func TestOrderOfErrors(t *testing.T) {
	for _, b := range [][]byte{page(3, plainCells(leaf(in("k", "v")))), page(2, plainCells(leaf(in("k", "v")))), page(1, nil), page(1, [][]byte{{9}}), resummed(make([]byte, 128))} {
		refused(t, b, api.ErrForm)
		wrong := bytes.Clone(b)
		wrong[3]++
		refused(t, wrong, api.ErrSum) // ahead of being no node
		refused(t, wrong[:127], api.ErrArg)
		refused(t, append(wrong, 0), api.ErrArg)
		refused(t, resummed(append(bytes.Clone(b), 0)), api.ErrArg)
	}
	notPut(t, leaf(in("", text(200)))) // both faults have the same error
}

// Rule 3: arguments are neither modified nor retained, and results are in new memory.

func TestArgumentsAreLeft(t *testing.T) {
	for _, n := range all() {
		whole := append(slices.Clone(n.L), in("spare", "1"), kid("spare", 2))
		want := slices.Clone(whole)
		given := node.Node{Leaf: n.Leaf, L: whole[:len(n.L)]}
		l, ok := node.Cells(given), node.Check(given)
		b, e := node.Put(given)
		if !slices.Equal(whole, want) {
			t.Errorf("the argument became %#v, want %#v", whole, want)
		}
		page := bytes.Clone(b)
		clear(whole)
		if !sameCells(l, plainCells(n)) || !bytes.Equal(b, page) || ok != (e == api.OK) {
			t.Errorf("Cells of %#v became %x, Put %x when the argument was changed", n, l, b)
		}
	}
}

func TestGetLeavesItsArgument(t *testing.T) {
	for _, n := range valid()[:300] {
		whole := append(plainPut(n), "spare"...)
		want := bytes.Clone(whole)
		got, e := node.Get(whole[:128])
		if e != api.OK || !bytes.Equal(whole, want) {
			t.Errorf("Get: %d, and the argument became %x, want %x", e, whole, want)
		}
		clear(whole)
		if !same(got, n) {
			t.Errorf("Get became %#v when its argument was changed, want %#v", got, n)
		}
		clear(got.L)
		_ = append(got.L, in("after", ""))
		gets(t, want[:128], n)
		for _, wrong := range [][]byte{page(3, plainCells(n)), resummed(append([]byte{0, 0, 0, 0, 3 - want[4]}, want[5:128]...)), append([]byte{want[0] + 1}, want[1:128]...), want[:127]} {
			was := bytes.Clone(wrong)
			if _, e := node.Get(wrong); e == api.OK || !bytes.Equal(wrong, was) {
				t.Errorf("Get: %d, and the argument became %x, want %x", e, wrong, was)
			}
		}
	}
}

// TestCellsAreTheirOwn changes each cell, and what is behind it.
func TestCellsAreTheirOwn(t *testing.T) {
	for _, n := range []node.Node{leaf(in("k", "v")), leaf(in("a", "12"), far("b", 119, 7), in("c", "")), branch(kid("", 2), kid("abc", 3), kid("b", 4)), leaf(in("", ""), in("", "")), branch(kid("", 2), kid("", 2)), just()[0], just()[3], just()[5]} {
		for i := range n.L {
			got, other, want := node.Cells(n), node.Cells(n), plainCells(n)
			for k := range got[i] {
				got[i][k], want[i][k] = 'y', 'y'
			}
			clear(got[i][len(got[i]):cap(got[i])])
			longer := append(got[i], "after"...)
			if !sameCells(got, want) || !sameCells(other, plainCells(n)) || string(longer) != string(want[i])+"after" {
				t.Errorf("what was written to cell %d of %#v made them %x, others %x", i, n, got, other)
			}
		}
		got, other := node.Cells(n), node.Cells(n)
		clear(got)
		_ = append(got, []byte("after"))
		if !sameCells(other, plainCells(n)) || !sameCells(node.Cells(n), plainCells(n)) {
			t.Errorf("Cells of %#v became %x when another answer was changed", n, other)
		}
	}
}

func TestPutIsNewMemory(t *testing.T) {
	for _, n := range valid()[:300] {
		a, b := put(t, n), put(t, n)
		clear(a)
		_ = append(a, "after"...)
		if want := plainPut(n); !bytes.Equal(b, want) || !bytes.Equal(put(t, n), want) {
			t.Errorf("Put became %x when another answer was changed, want %x", b, want)
		}
	}
}

func TestGetIsNewMemory(t *testing.T) {
	for _, n := range valid()[:300] {
		page := plainPut(n)
		a, _ := node.Get(page)
		b, _ := node.Get(page)
		clear(a.L)
		if !same(b, n) {
			t.Errorf("Get became %#v when another answer was changed, want %#v", b, n)
		}
	}
}

// P8.3

func TestGetOfPut(t *testing.T) {
	for _, n := range valid() {
		gets(t, put(t, n), n)
	}
}

func TestPutOfGet(t *testing.T) {
	for _, n := range valid() {
		b := plainPut(n)
		got, e := node.Get(b)
		if e != api.OK {
			t.Fatalf("Get(%x) = %d", b, e)
		}
		if again := put(t, got); !bytes.Equal(again, b) {
			t.Errorf("Put of Get(%x) = %x", b, again)
		}
	}
}

// TestPagesAreEqualJustIfTheirNodesAre holds each of many pages against each other one.
func TestPagesAreEqualJustIfTheirNodesAre(t *testing.T) {
	l := valid()[:400]
	var pages [][]byte
	for _, n := range l {
		pages = append(pages, put(t, n))
	}
	for i, p := range pages {
		for k, q := range pages {
			if want := same(l[i], l[k]); bytes.Equal(p, q) != want {
				t.Errorf("the pages of %#v and %#v are equal: %#v", l[i], l[k], !want)
			}
		}
	}
}
