package conf_test

import (
	"math"
	"slices"
	"sort"
	"strconv"
	"strings"
	"testing"
	"unicode/utf8"

	"jalousie/api"
	"jalousie/conf"
	"jalousie/grants"
	"jalousie/lattice"
)

// The signatures that the chapter lists: another one doesn't compile.
var (
	_ func(string) bool                            = conf.Name
	_ func(api.Conf) bool                          = conf.Check
	_ func(string) (api.Conf, api.Errno, int, int) = conf.Parse
	_ func(api.Conf) string                        = conf.Show
)

// dice produces numbers below one, which look like chance and are the same for one seed.
func dice(seed uint64) func(below int) int {
	return func(below int) int {
		seed = seed*6364136223846793005 + 1442695040888963407
		return int(seed >> 33 % uint64(below))
	}
}

// Configurations.

// name is a name for a label of a number: no two are equal, and they don't rise.
func name(c int) string {
	return string([]rune{'a' + rune(c*7%26), 'A' + rune(c/26), 'é'})
}

// made is a configuration of rows, with names and quotas, and the grants.
func made(up []uint64, l ...api.Grant) api.Conf {
	c := api.Conf{Up: up, Grants: l}
	for i := range up {
		c.Names = append(c.Names, name(i))
		c.Quotas = append(c.Quotas, 4+i*997%997)
	}
	return c
}

// ladder is so many labels, each of which flows to those behind it.
func ladder(n int) []uint64 {
	up := make([]uint64, n)
	for c := range n - 1 {
		up[c] = 1 << (c + 1)
	}
	return lattice.Close(up)
}

// fan is so many labels: the first flows to all others, and all others to the last.
func fan(n int) []uint64 {
	up := make([]uint64, n)
	for c := range up {
		up[0] |= 1 << c
		up[c] |= 1 << (n - 1)
	}
	return lattice.Close(up)
}

// diamond is 0 below 1 and 2, and 3 above both.
func diamond() []uint64 { return []uint64{15, 10, 12, 8} }

// fitting is all grants that fit, rising.
func fitting(up []uint64) []api.Grant {
	var l []api.Grant
	for a := range up {
		for f := range up {
			for t := range up {
				if g := (api.Grant{Actor: a, From: f, To: t}); grants.Fits(up, g) {
					l = append(l, g)
				}
			}
		}
	}
	return l
}

// some are configurations that may be.
func some(t *testing.T) []api.Conf {
	t.Helper()
	long := api.Conf{
		Names:  []string{strings.Repeat("ж", 12), "\uFFFD", "label", "under", "grant", "\u0080\U0010FFFF", "Z", "z"},
		Up:     ladder(8),
		Quotas: []int{4, 5, 9, 10, 99, 100, 999, 1000},
		Grants: []api.Grant{{Actor: 1, From: 1, To: 0}, {Actor: 7, From: 2, To: 1}, {Actor: 7, From: 7, To: 0}},
	}
	out := []api.Conf{long}
	for _, up := range [][]uint64{{1}, {3, 2}, {1, 3}, ladder(3), {1, 3, 7}, {5, 7, 4}, diamond(), {1, 3, 5, 15}, {5, 15, 4, 12}, {31, 22, 20, 24, 16}, fan(5), fan(9), ladder(63), fan(63), ladder(64), fan(64)} {
		l := fitting(up)
		out = append(out, made(up), made(up, l[:min(len(l), 1)]...), made(up, l[:min(len(l), 64)]...), made(up, l[max(0, len(l)-64):]...))
	}
	for i, c := range out {
		if !lattice.Check(c.Up) || !grants.Check(c.Up, c.Grants) {
			t.Fatalf("configuration %d may not be", i)
		}
	}
	return out
}

// same tells whether two configurations are equal.
func same(a, b api.Conf) bool {
	return slices.Equal(a.Names, b.Names) && slices.Equal(a.Up, b.Up) && slices.Equal(a.Quotas, b.Quotas) && slices.Equal(a.Grants, b.Grants)
}

// copied is a configuration in memory of its own.
func copied(c api.Conf) api.Conf {
	return api.Conf{Names: slices.Clone(c.Names), Up: slices.Clone(c.Up), Quotas: slices.Clone(c.Quotas), Grants: slices.Clone(c.Grants)}
}

// isNone tells whether a configuration is the zero value.
func isNone(c api.Conf) bool {
	return c.Names == nil && c.Up == nil && c.Quotas == nil && c.Grants == nil
}

// The promises, done as the chapter says them.

// sign is a character: its bytes, and whether it is a letter.
type sign struct {
	bytes  string
	letter bool
}

func plainSigns(s string) []sign {
	var out []sign
	for s != "" {
		r, size := utf8.DecodeRuneInString(s)
		broken := r == utf8.RuneError && size == 1
		out = append(out, sign{s[:size], !broken && (r >= 128 || 'a' <= r && r <= 'z' || 'A' <= r && r <= 'Z')})
		s = s[size:]
	}
	return out
}

func plainName(s string) bool {
	l := plainSigns(s)
	return len(l) >= 1 && len(l) <= 12 && !slices.ContainsFunc(l, func(c sign) bool { return !c.letter })
}

func plainCheck(c api.Conf) bool {
	if len(c.Names) != len(c.Up) || len(c.Up) != len(c.Quotas) {
		return false
	}
	for i, a := range c.Names {
		if !plainName(a) || c.Quotas[i] < 4 || c.Quotas[i] > 1000 {
			return false
		}
		for j, b := range c.Names {
			if i != j && a == b {
				return false
			}
		}
	}
	return lattice.Check(c.Up) && grants.Check(c.Up, c.Grants)
}

// piece is a word with its column and that behind its last character.
type piece struct {
	text       string
	first, end int
}

// plainWords is the words of each line.
func plainWords(s string) [][]piece {
	out := [][]piece{nil}
	column, open, comment := 1, false, false
	for _, c := range plainSigns(s) {
		last := len(out) - 1
		switch {
		case c.bytes == "\n":
			out = append(out, nil)
			column, open, comment = 1, false, false
			continue
		case c.bytes == "#" || comment:
			comment = true
		case c.bytes == " " || c.bytes == "\t":
			open = false
		case !open:
			out[last] = append(out[last], piece{c.bytes, column, column + 1})
			open = true
		default:
			w := &out[last][len(out[last])-1]
			w.text += c.bytes
			w.end++
		}
		column++
	}
	return out
}

func plainQuota(s string) bool {
	n := 0
	for _, c := range []byte(s) {
		if !strings.Contains("0123456789", string(rune(c))) {
			return false
		}
		n = n*10 + int(c-'0')
	}
	return 1 <= len(s) && len(s) <= 4 && n >= 4 && n <= 1000
}

// plainParse has for each kind of line a list of what its words must be.
func plainParse(s string) (api.Conf, api.Errno, int, int) {
	var c api.Conf
	isNew := func(w string) bool { return plainName(w) && !slices.Contains(c.Names, w) && len(c.Names) < 64 }
	isOld := func(w string) bool { return slices.Contains(c.Names, w) }
	forms := map[string][]func(string) bool{"label": {isNew, plainQuota}, "under": {isOld, isOld}, "grant": {isOld, isOld, isOld}}
	for i, l := range plainWords(s) {
		if len(l) == 0 {
			continue
		}
		form, ok := forms[l[0].text]
		if !ok {
			return api.Conf{}, api.ErrText, i + 1, l[0].first
		}
		for j, valid := range form {
			if j+1 == len(l) {
				return api.Conf{}, api.ErrText, i + 1, l[j].end
			}
			if !valid(l[j+1].text) {
				return api.Conf{}, api.ErrText, i + 1, l[j+1].first
			}
		}
		if len(l) > len(form)+1 {
			return api.Conf{}, api.ErrText, i + 1, l[len(form)+1].first
		}
		plainAdd(&c, l)
	}
	return plainEnd(c)
}

// plainAdd adds what a line says.
func plainAdd(c *api.Conf, l []piece) {
	at := func(i int) int { return slices.Index(c.Names, l[i].text) }
	switch l[0].text {
	case "label":
		n, _ := strconv.Atoi(l[2].text)
		c.Names, c.Quotas, c.Up = append(c.Names, l[1].text), append(c.Quotas, n), append(c.Up, 1<<len(c.Up))
	case "under":
		c.Up[at(1)] |= 1 << at(2)
	case "grant":
		c.Grants = append(c.Grants, api.Grant{Actor: at(1), From: at(2), To: at(3)})
	}
}

// plainEnd is what comes behind the last line.
func plainEnd(c api.Conf) (api.Conf, api.Errno, int, int) {
	for changed := true; changed; {
		changed = false
		for a := range c.Up {
			for b := range c.Up {
				if more := c.Up[a] | c.Up[b]; c.Up[a]/(1<<b)%2 == 1 && more != c.Up[a] {
					c.Up[a], changed = more, true
				}
			}
		}
	}
	var l []api.Grant
	for _, g := range c.Grants {
		if !slices.Contains(l, g) {
			l = append(l, g)
		}
	}
	sort.Slice(l, func(i, j int) bool { return grants.Less(l[i], l[j]) })
	c.Grants = l
	if !plainCheck(c) {
		return api.Conf{}, api.ErrText, 0, 0
	}
	return c, api.OK, 0, 0
}

func plainShow(c api.Conf) string {
	if !plainCheck(c) {
		return ""
	}
	s := ""
	for i := range c.Names {
		s += "label " + c.Names[i] + " " + strconv.Itoa(c.Quotas[i]) + "\n"
	}
	for i := range c.Names {
		for j := range c.Names {
			if i != j && c.Up[i]/(1<<j)%2 == 1 {
				s += "under " + c.Names[i] + " " + c.Names[j] + "\n"
			}
		}
	}
	for _, g := range c.Grants {
		s += "grant " + c.Names[g.Actor] + " " + c.Names[g.From] + " " + c.Names[g.To] + "\n"
	}
	return s
}

// parsed holds what Parse comes to, and that there is nothing beside an error.
func parsed(t *testing.T, s string, want api.Conf, err api.Errno, line, column int) {
	t.Helper()
	c, e, l, k := conf.Parse(s)
	if e != err || l != line || k != column || !same(c, want) || e != api.OK && !isNone(c) {
		t.Errorf("Parse(%q) = %v, %v, %d, %d, want %v, %v, %d, %d", s, c, e, l, k, want, err, line, column)
	}
}

// right holds that a text is a configuration's.
func right(t *testing.T, s string, want api.Conf) {
	t.Helper()
	parsed(t, s, want, api.OK, 0, 0)
}

// wrong holds that a text is none's, and where.
func wrong(t *testing.T, s string, line, column int) {
	t.Helper()
	parsed(t, s, api.Conf{}, api.ErrText, line, column)
}

// plain holds that Parse comes to what the chapter says.
func plain(t *testing.T, s string) {
	t.Helper()
	c, e, l, k := plainParse(s)
	parsed(t, s, c, e, l, k)
}

// P5.1

func TestNameKnown(t *testing.T) {
	for s, want := range map[string]bool{
		"": false, "a": true, "z": true, "A": true, "Z": true, "aZ": true,
		"@": false, "[": false, "`": false, "{": false, "\x7f": false, "\u0080": true, "\u0085": true, "\u00a0": true, "é": true, "ж": true, "日本": true, "\U0001F600": true, "\U0010FFFF": true,
		"0": false, "9": false, "a1": false, "1a": false, "_": false, "a-b": false, "a.": false, "a b": false, " a": false, "a ": false, "a\t": false, "a\n": false, "a\r": false, "#": false, "a#": false, "\x00": false, "a\x00": false,
		"abcdefghijkl": true, "abcdefghijklm": false, "ABCDEFGHIJKL": true,
		strings.Repeat("é", 12): true, strings.Repeat("é", 13): false, strings.Repeat("日", 12): true, strings.Repeat("日", 13): false, strings.Repeat("\U0010FFFF", 12): true, strings.Repeat("\U0010FFFF", 13): false, strings.Repeat("é", 6) + "aaaaaa": true, strings.Repeat("é", 6) + "aaaaaaa": false,
		"\uFFFD": true, "a\uFFFDb": true, strings.Repeat("\uFFFD", 12): true, // encoded itself, it is a letter
		"\x80": false, "\xbf": false, "\xff": false, "\xfe": false, "a\x80": false, "\x80a": false, "a\xffb": false, "\xc3": false, "a\xc3": false, "\xc3a": false, "\xe6\x97": false, "\xe6\x97a": false, "\xf4\x8f\xbf": false,
		"\xc0\x80": false, "\xc1\xa1": false, "\xe0\x80\x80": false, "\xed\xa0\x80": false, "\xed\xbf\xbf": false, "\xf4\x90\x80\x80": false, "\xf8\x88\x80\x80\x80": false, "\uFFFD\xff": false, "\xff\uFFFD": false,
		"label": true, "under": true, "grant": true,
	} {
		if got := conf.Name(s); got != want || got != plainName(s) {
			t.Errorf("Name(%q) = %v", s, got)
		}
	}
}

func TestNameOfEachCharacter(t *testing.T) {
	for r := range rune(0x110000) {
		if 0xD800 <= r && r <= 0xDFFF { // no characters
			continue
		}
		want := r >= 128 || 'a' <= r && r <= 'z' || 'A' <= r && r <= 'Z'
		for _, s := range []string{string(r), "ab" + string(r), string(r) + "ab"} {
			if got := conf.Name(s); got != want {
				t.Fatalf("Name(%q) = %v", s, got)
			}
		}
	}
}

func TestNameOfEachBytes(t *testing.T) {
	for a := range 256 {
		for b := range 256 {
			for _, s := range []string{string([]byte{byte(a)}), string([]byte{byte(a), byte(b)}), string([]byte{'x', byte(a), byte(b), 'y'}), string([]byte{byte(a), byte(b), 0x80}), string([]byte{byte(a), 0xbf, byte(b), 0x80})} {
				if got := conf.Name(s); got != plainName(s) {
					t.Fatalf("Name(%q) = %v", s, got)
				}
			}
		}
	}
}

func TestNameOfEachLength(t *testing.T) {
	for _, letter := range []string{"a", "Z", "é", "日", "\U0001F600", "\uFFFD"} {
		for size := range 300 {
			if got, want := conf.Name(strings.Repeat(letter, size)), 1 <= size && size <= 12; got != want {
				t.Errorf("Name of %d times %q = %v", size, letter, got)
			}
		}
	}
	for _, size := range []int{12, 13, 255, 256, 257, 65536, 65537} {
		if conf.Name(strings.Repeat("a", size)+"\xff") || conf.Name(strings.Repeat("a", size)+"1") {
			t.Errorf("a name has %d letters and something else", size)
		}
	}
}

func TestCheckOfSome(t *testing.T) {
	for i, c := range some(t) {
		if !conf.Check(c) {
			t.Errorf("Check of configuration %d = false", i)
		}
	}
	if conf.Check(api.Conf{}) {
		t.Error("Check of no label = true")
	}
}

// TestCheckOfChanges has configurations that differ in one thing from one that may be.
func TestCheckOfChanges(t *testing.T) {
	good := made(diamond(), api.Grant{Actor: 1, From: 1, To: 0}, api.Grant{Actor: 3, From: 2, To: 1})
	for what, change := range map[string]func(c *api.Conf){
		"a name less":                   func(c *api.Conf) { c.Names = c.Names[:3] },
		"a name more":                   func(c *api.Conf) { c.Names = append(c.Names, "more") },
		"no names":                      func(c *api.Conf) { c.Names = nil },
		"a quota less":                  func(c *api.Conf) { c.Quotas = c.Quotas[:3] },
		"a quota more":                  func(c *api.Conf) { c.Quotas = append(c.Quotas, 9) },
		"no quotas":                     func(c *api.Conf) { c.Quotas = nil },
		"a row less":                    func(c *api.Conf) { c.Up = []uint64{7, 6, 4}; c.Grants = nil },
		"a row more":                    func(c *api.Conf) { c.Up = []uint64{31, 26, 28, 24, 16} },
		"no rows":                       func(c *api.Conf) { c.Up, c.Grants = nil, nil },
		"rows that are no lattice":      func(c *api.Conf) { c.Up = []uint64{7, 2, 4, 8}; c.Grants = nil },
		"rows that aren't closed":       func(c *api.Conf) { c.Up = []uint64{7, 10, 12, 8} },
		"rows that flow round":          func(c *api.Conf) { c.Up = []uint64{15, 15, 15, 15}; c.Grants = nil },
		"a bit that is no label":        func(c *api.Conf) { c.Up[3] = 24 },
		"the first name again":          func(c *api.Conf) { c.Names[3] = c.Names[0] },
		"names of neighbours equal":     func(c *api.Conf) { c.Names[2] = c.Names[1] },
		"an empty name":                 func(c *api.Conf) { c.Names[0] = "" },
		"a name with a digit":           func(c *api.Conf) { c.Names[3] = "a1" },
		"a name of 13 letters":          func(c *api.Conf) { c.Names[2] = strings.Repeat("a", 13) },
		"a name of broken bytes":        func(c *api.Conf) { c.Names[2] = "\xff" },
		"a quota of 3":                  func(c *api.Conf) { c.Quotas[0] = 3 },
		"a quota of 0":                  func(c *api.Conf) { c.Quotas[3] = 0 },
		"a quota below 0":               func(c *api.Conf) { c.Quotas[1] = -4 },
		"a least quota":                 func(c *api.Conf) { c.Quotas[1] = math.MinInt },
		"a quota of 1001":               func(c *api.Conf) { c.Quotas[3] = 1001 },
		"a great quota":                 func(c *api.Conf) { c.Quotas[2] = math.MaxInt },
		"a grant twice":                 func(c *api.Conf) { c.Grants[1] = c.Grants[0] },
		"grants that do not rise":       func(c *api.Conf) { slices.Reverse(c.Grants) },
		"a grant that doesn't fit":      func(c *api.Conf) { c.Grants[0] = api.Grant{Actor: 0, From: 1, To: 0} },
		"a grant for what flows anyway": func(c *api.Conf) { c.Grants[1] = api.Grant{Actor: 3, From: 0, To: 3} },
		"a grant to no label":           func(c *api.Conf) { c.Grants[1] = api.Grant{Actor: 3, From: 3, To: 4} },
		"a grant of no label":           func(c *api.Conf) { c.Grants[0] = api.Grant{Actor: -1, From: 3, To: 1} },
	} {
		c := copied(good)
		change(&c)
		if conf.Check(c) {
			t.Errorf("Check with %s = true", what)
		}
		if s := conf.Show(c); s != "" {
			t.Errorf("Show with %s = %q", what, s)
		}
	}
	for what, change := range map[string]func(c *api.Conf){
		"nothing changed":              func(c *api.Conf) {},
		"quotas of 4":                  func(c *api.Conf) { c.Quotas = []int{4, 4, 4, 4} },
		"quotas of 1000":               func(c *api.Conf) { c.Quotas = []int{1000, 1000, 1000, 1000} },
		"names of 12 letters":          func(c *api.Conf) { c.Names[0], c.Names[1] = "abcdefghijkl", strings.Repeat("\U0010FFFF", 12) },
		"names that differ in case":    func(c *api.Conf) { c.Names = []string{"ab", "Ab", "aB", "AB"} },
		"names that begin each other":  func(c *api.Conf) { c.Names = []string{"a", "aa", "aaa", "aaaa"} },
		"names that look alike":        func(c *api.Conf) { c.Names = []string{"é", "e\u0301", "\u0435\u0301", "e"} },
		"no grants":                    func(c *api.Conf) { c.Grants = nil },
		"an empty list of grants":      func(c *api.Conf) { c.Grants = c.Grants[:0] },
		"another lattice of as many":   func(c *api.Conf) { c.Up = ladder(4) },
		"a name that begins a line":    func(c *api.Conf) { c.Names[1] = "label" },
		"a name of an encoded U+FFFD":  func(c *api.Conf) { c.Names[1] = "\uFFFD" },
		"a name of a space of Unicode": func(c *api.Conf) { c.Names[1] = "\u2003" },
	} {
		c := copied(good)
		change(&c)
		if !conf.Check(c) {
			t.Errorf("Check with %s = false", what)
		}
	}
}

func TestCheckOfManyLabels(t *testing.T) {
	for n := 1; n <= 64; n++ {
		if !conf.Check(made(ladder(n))) {
			t.Errorf("Check of %d labels = false", n)
		}
	}
	for _, n := range []int{0, 65, 66, 128, 256, 257, 320} {
		for _, row := range []uint64{0, 1, math.MaxUint64} {
			if conf.Check(made(slices.Repeat([]uint64{row}, n))) {
				t.Errorf("Check of %d labels = true", n)
			}
		}
	}
}

func TestCheckOfEachPairOfNames(t *testing.T) {
	good := made(ladder(64))
	for i := range 64 {
		for j := range 64 {
			c := copied(good)
			c.Names[i] = c.Names[j]
			if got := conf.Check(c); got != (i == j) {
				t.Fatalf("Check with name %d as name %d = %v", j, i, got)
			}
		}
		for _, bad := range []string{"", "1", "\xff", "abcdefghijklm"} {
			c := copied(good)
			c.Names[i] = bad
			if conf.Check(c) {
				t.Errorf("Check with %q as name %d = true", bad, i)
			}
		}
		for _, quota := range []int{-5, -4, -1, 0, 1, 2, 3, 4, 5, 999, 1000, 1001, 1002, 1004, 4 + 1<<16, 4 + 1<<32} {
			c := copied(good)
			c.Quotas[i] = quota
			if got := conf.Check(c); got != (4 <= quota && quota <= 1000) {
				t.Errorf("Check with %d as quota %d = %v", quota, i, got)
			}
		}
	}
}

func TestCheckOfManyGrants(t *testing.T) {
	l := fitting(ladder(64))
	for _, size := range []int{0, 1, 2, 63, 64, 65, 128, 255, 256, 257, 320, 1000} {
		if got := conf.Check(made(ladder(64), l[:size]...)); got != (size <= 64) {
			t.Errorf("Check of %d grants = %v", size, got)
		}
	}
}

// P5.2

func TestParseKnown(t *testing.T) {
	pair := api.Conf{Names: []string{"a", "b"}, Up: []uint64{3, 2}, Quotas: []int{9, 9}}
	right(t, "label a 9\nlabel b 9\nunder a b\n", pair) // the chapter's example
	right(t, "label low 40\nlabel high 40\nunder low high\n", api.Conf{Names: []string{"low", "high"}, Up: []uint64{3, 2}, Quotas: []int{40, 40}})
	right(t, "label a 4", api.Conf{Names: []string{"a"}, Up: []uint64{1}, Quotas: []int{4}})
	right(t, "label b 9\nlabel a 10\nunder a b", api.Conf{Names: []string{"b", "a"}, Up: []uint64{1, 3}, Quotas: []int{9, 10}}) // as the lines stand
	granted := copied(pair)
	granted.Grants = []api.Grant{{Actor: 1, From: 1, To: 0}}
	right(t, "label a 9\nlabel b 9\nunder a b\ngrant b b a\n", granted)
	right(t, "label a 9\nlabel b 9\ngrant b b a\nunder a b\n", granted) // whether it fits is asked behind the last line
	right(t, "label a 9\nlabel b 9\nunder a b\ngrant b b a\ngrant b b a\ngrant b b a", granted)
	// Which name is whose.
	right(t, "label a 9\nlabel b 9\nlabel c 9\nlabel d 9\nunder a b\nunder a c\nunder b d\nunder c d\ngrant d b c\n", api.Conf{Names: []string{"a", "b", "c", "d"}, Up: diamond(), Quotas: []int{9, 9, 9, 9}, Grants: []api.Grant{{Actor: 3, From: 1, To: 2}}})
}

func TestParseOfSpaces(t *testing.T) {
	pair := api.Conf{Names: []string{"a", "b"}, Up: []uint64{3, 2}, Quotas: []int{9, 9}}
	for _, s := range []string{
		"label a 9\nlabel b 9\nunder a b",
		"\n\nlabel a 9\n\n\nlabel b 9\n \n\t\nunder a b\n\n",
		"  label a 9\n\tlabel\tb\t9\n \t under \t a \t b \t ",
		"# a comment\nlabel a 9# 10\nlabel b 9 # label c 9\n##\nunder a b#\n#",
		"label a 9 #\xff\xc3 é\nlabel b 9\t#\t#\n#\xff\nunder a b # \u2003",
		"#label c\nlabel a 9\nlabel b 9\nunder a b#c\n# \n",
		"label a 9\nlabel b 9\nunder a b\nunder a a\nunder b b\nunder a b\n",
	} {
		right(t, s, pair)
	}
}

// TestParseOfOtherSpaces has what looks like a space or an end of a line and is none.
func TestParseOfOtherSpaces(t *testing.T) {
	wrong(t, "label a 9\r\n", 1, 9)
	wrong(t, "label a 9\n\r\n", 2, 1)
	wrong(t, "label a 9\rlabel b 9", 1, 9)
	wrong(t, "label\va 9", 1, 1)
	wrong(t, "label\fa 9", 1, 1)
	wrong(t, "label\u00a0a 9", 1, 1)
	wrong(t, "\ufefflabel a 9", 1, 1)
	wrong(t, "label a 9\u0085", 1, 9)
	wrong(t, "label a 9\u2028label b 9", 1, 9)
	wrong(t, "label a\x009", 1, 7)
	wrong(t, "label a 9\x00", 1, 9)
	right(t, "label a\u00a0b\u2003 9", api.Conf{Names: []string{"a\u00a0b\u2003"}, Up: []uint64{1}, Quotas: []int{9}}) // letters
}

func TestParseOfNoLabel(t *testing.T) {
	for _, s := range []string{"", "\n", " ", "\t", "#", "# label a 9", "\n\n \n\t#\n", "#\xff"} {
		wrong(t, s, 0, 0)
	}
}

// TestParseOfWrongWords has of each kind of line each word that can be wrong, missing or too much.
func TestParseOfWrongWords(t *testing.T) {
	for _, x := range []struct {
		line   string
		column int
	}{
		{"lable a 9", 1},
		{"Label c 9", 1},
		{"labels c 9", 1},
		{"l", 1},
		{"9", 1},
		{"a", 1},
		{"\xff", 1},
		{"é a b", 1},
		{"   x", 4},
		{"\tlabell", 2},
		{"under, a b", 1},

		{"label", 6},
		{"label   ", 6},
		{"label # c 9", 6},
		{"  label\t", 8},
		{"label 9", 7},
		{"label 9 9 9 9", 7},
		{"label   c1", 9},
		{"label a 9", 7}, // there is one
		{"label b", 7},
		{"label a x", 7},
		{"label abcdefghijklm 9", 7},
		{"label \xff 9", 7},
		{"label c\xc3 9", 7},
		{"label c-d 9", 7},
		{"label c", 8},
		{"label c ", 8},
		{"label c# 9", 8},
		{"label  ccc  #", 11},
		{"label éé ", 9},
		{"label \uFFFD\uFFFD ", 9},
		{"label c x", 9},
		{"label c 3", 9},
		{"label c 0", 9},
		{"label c 1001", 9},
		{"label c 9999", 9},
		{"label c 00009", 9},
		{"label c 10000", 9},
		{"label c -9", 9},
		{"label c +9", 9},
		{"label c 9.", 9},
		{"label c 9x", 9},
		{"label c x9", 9},
		{"label c 0x9", 9},
		{"label c 1_0", 9},
		{"label c 9,", 9},
		{"label c 1e1", 9},
		{"label c ٩", 9}, // a digit, and a letter
		{"label c ９", 9},
		{"label c \xff9", 9},
		{"label c 18446744073709551625", 9}, // 9 in 64 bits
		{"label c 4294967305", 9},
		{"label éé 3", 10},
		{"label c 3 9", 9}, // from left to right
		{"label c d 9", 9},
		{"label c 9 9", 11},
		{"label c 9 d e", 11},
		{"label c 9   \xff", 13},
		{"label c 9\té#", 11},

		{"under", 6},
		{"under #", 6},
		{"under c", 7},
		{"under c a", 7},
		{"under c d e", 7},
		{"under a", 8},
		{"under   a   ", 10},
		{"under a c", 9},
		{"under a c c", 9},
		{"under a A", 9},
		{"under a aa", 9},
		{"under a 9", 9},
		{"under a \xff", 9},
		{"under a b c", 11},
		{"under a b\ta b", 11},
		{"under a b under a b", 11},

		{"grant", 6},
		{"grant\t#", 6},
		{"grant c", 7},
		{"grant c b a", 7},
		{"grant b", 8},
		{"grant b c", 9},
		{"grant b c c c", 9},
		{"grant b b", 10},
		{"grant b b # a", 10},
		{"grant b b c", 11},
		{"grant b b c a", 11},
		{"grant b b a a", 13},
		{"grant b b a   c d", 15},
	} {
		const before = "label a 9\nlabel b 9\nunder a b\n"
		for _, after := range []string{"", "\n", "\nlabel c 9\n", "\nx", "\nlabel a"} { // the first wrong line counts
			wrong(t, before+x.line+after, 4, x.column)
			wrong(t, before+"\n# é\xff\n"+x.line+after, 6, x.column)
		}
		plain(t, before+x.line)
	}
}

// TestParseOfNamesOfLaterLines has names ahead of the line that gives them.
func TestParseOfNamesOfLaterLines(t *testing.T) {
	wrong(t, "under a b\nlabel a 9\nlabel b 9", 1, 7)
	wrong(t, "label a 9\nunder a b\nlabel b 9", 2, 9)
	wrong(t, "label b 9\nunder a b\nlabel a 9", 2, 7)
	wrong(t, "grant a a a\nlabel a 9", 1, 7)
	wrong(t, "label b 9\ngrant b b a\nlabel a 9\nunder a b", 2, 11)
	wrong(t, "label a 9\nlabel b 9\nlabel a 9", 3, 7)
	wrong(t, "label a a", 1, 9)
}

// TestColumnsAreCharacters has characters of several bytes, and bytes that are part of none, ahead of what is wrong.
func TestColumnsAreCharacters(t *testing.T) {
	wrong(t, "label é x", 1, 9)
	wrong(t, "label 日本 x", 1, 10)
	wrong(t, "label \U0001F600 x", 1, 9)
	wrong(t, "label \uFFFD 3", 1, 9)
	wrong(t, "label éé", 1, 9)
	wrong(t, "label a 9\nunder a\ta\té\xff\xff x", 2, 11)
	wrong(t, "\xff\xfe x", 1, 1)
	wrong(t, "label \xc3 9", 1, 7)
	wrong(t, "label a 9 \xe6\x97 x", 1, 11)
	wrong(t, "label é 9 é é", 1, 11)
	wrong(t, "label é 9\nlabel è 9\nunder é è è", 3, 11)
	wrong(t, "label é 9\nlabel è 9\ngrant é è", 3, 10)
	wrong(t, "label\té\t\té", 1, 10)
	wrong(t, "# éé\xff\n\tlabel\t3", 2, 8)
}

func TestParseOfEachNumber(t *testing.T) {
	for n := range 10100 {
		for digits := 1; digits <= 6; digits++ {
			s := strings.Repeat("0", max(0, digits-len(strconv.Itoa(n)))) + strconv.Itoa(n)
			if len(s) <= 4 && 4 <= n && n <= 1000 {
				right(t, "label a "+s, api.Conf{Names: []string{"a"}, Up: []uint64{1}, Quotas: []int{n}})
			} else {
				wrong(t, "label a "+s, 1, 9)
			}
		}
	}
	right(t, "label a 0010", api.Conf{Names: []string{"a"}, Up: []uint64{1}, Quotas: []int{10}}) // ten, not eight
	for c := range 256 {
		for _, s := range []string{string([]byte{byte(c)}), string([]byte{byte(c), '9'}), string([]byte{'9', byte(c)}), string([]byte{'9', byte(c), '9'})} {
			plain(t, "label a "+s)
		}
	}
}

func TestParseOfNames(t *testing.T) {
	for _, s := range []string{"a", "Z", "label", "under", "grant", "abcdefghijkl", strings.Repeat("\U0010FFFF", 12), "\u0080", "\uFFFD", "\u2028", "éà"} {
		want := api.Conf{Names: []string{s}, Up: []uint64{1}, Quotas: []int{77}}
		right(t, "label "+s+" 77", want)
		right(t, "label "+s+" 77\nunder "+s+" "+s, want)
	}
	for _, s := range []string{"abcdefghijklm", strings.Repeat("é", 13), "a1", "\xff", "a\xffb", "\xed\xa0\x80", "\xc3", "a=b", "a\r"} {
		wrong(t, "label "+s+" 77", 1, 7)
	}
	// The broken byte is not the letter that a range makes of it.
	wrong(t, "label \uFFFD 9\nunder \uFFFD \xff", 2, 9)
	// Names are held against each other byte by byte.
	wrong(t, "label a 9\nunder A a", 2, 7)
	wrong(t, "label é 9\nunder e\u0301 é", 2, 7)
}

// labels is lines of so many labels, each under the one behind it.
func labels(n int) string {
	var b strings.Builder
	for c := range n {
		b.WriteString("label " + name(c) + " 9\n")
		if c > 0 {
			b.WriteString("under " + name(c-1) + " " + name(c) + "\n")
		}
	}
	return b.String()
}

func TestParseOfManyLabels(t *testing.T) {
	for n := 1; n <= 64; n++ {
		c, e, l, k := conf.Parse(labels(n))
		if e != api.OK || l != 0 || k != 0 || !slices.Equal(c.Up, ladder(n)) || len(c.Names) != n || c.Names[n-1] != name(n-1) || len(c.Quotas) != n || c.Grants != nil {
			t.Errorf("Parse of %d labels = %v, %v, %d, %d", n, c, e, l, k)
		}
	}
	// The line of a 65th label has no name that may stand there.
	for _, last := range []string{"label more 9", "label more", "label more 3", "label " + name(0) + " 9", "label 1 9"} {
		wrong(t, labels(64)+last, 128, 7)
		wrong(t, labels(64)+"  "+last+" x\n", 128, 9)
	}
	wrong(t, labels(64)+"label", 128, 6)
	wrong(t, labels(65), 128, 7)
	wrong(t, labels(80), 128, 7)
	wrong(t, labels(64)+"label more 9\nx", 128, 7)
	plain(t, labels(64)+"grant "+name(63)+" "+name(63)+" "+name(0))
}

// TestParseClosesTheRows has ways that follow from others.
func TestParseClosesTheRows(t *testing.T) {
	const four = "label a 9\nlabel b 9\nlabel c 9\nlabel d 9\n"
	want := api.Conf{Names: []string{"a", "b", "c", "d"}, Quotas: []int{9, 9, 9, 9}}
	want.Up = ladder(4)
	for _, s := range []string{"under a b\nunder b c\nunder c d", "under c d\nunder b c\nunder a b", "under b c\nunder a b\nunder c d", "under a b\nunder a c\nunder a d\nunder b c\nunder b d\nunder c d\nunder b b"} {
		right(t, four+s, want)
	}
	want.Up = diamond()
	right(t, four+"under a b\nunder a c\nunder c d\nunder b d", want)
	want.Up = []uint64{1, 3, 7, 15}
	right(t, four+"under d c\nunder c b\nunder b a", want)
}

// TestParseOfWhatMayNotBe has lines that are right, and a whole that is not.
func TestParseOfWhatMayNotBe(t *testing.T) {
	const three = "label a 9\nlabel b 9\nlabel c 9\n"
	for _, s := range []string{
		"label a 9\nlabel b 9", // neither flows to the other
		three,
		three + "under a b",
		three + "under a b\nunder a c",                 // no Join
		three + "under a c\nunder b c",                 // no Meet
		three + "under a b\nunder b a\nunder b c",      // round
		three + "under a b\nunder b c\nunder c a",      // round by three
		"label a 9\nlabel b 9\nunder a b\ngrant a b a", // the actor doesn't see the source
		"label a 9\nlabel b 9\nunder a b\ngrant b a b", // it flows anyway
		"label a 9\nlabel b 9\nunder a b\ngrant b b b", // the same label
		"label a 9\ngrant a a a",                       // likewise
		"label a 9\nlabel b 9\nunder a b\ngrant b b a\ngrant a a a",
	} {
		wrong(t, s, 0, 0)
		wrong(t, s+"\n", 0, 0)
		plain(t, s)
	}
	// A wrong line tells more, wherever it stands.
	wrong(t, three+"x", 4, 1)
	wrong(t, "label a 9\nlabel b 9\nunder a b\nunder b a\nunder b", 5, 8)
}

// granting is lines of grants.
func granting(l []api.Grant) string {
	var b strings.Builder
	for _, g := range l {
		b.WriteString("grant " + name(g.Actor) + " " + name(g.From) + " " + name(g.To) + "\n")
	}
	return b.String()
}

func TestParseSortsTheGrants(t *testing.T) {
	roll := dice(1)
	head := labels(64)
	whole, _, _, _ := conf.Parse(head)
	all := fitting(ladder(64))
	for _, size := range []int{0, 1, 2, 3, 10, 63, 64} {
		for range 5 {
			want := copied(whole)
			for len(want.Grants) < size {
				if g := all[roll(len(all))]; !slices.Contains(want.Grants, g) {
					want.Grants = append(want.Grants, g)
				}
			}
			forth := granting(want.Grants)
			slices.Reverse(want.Grants)
			back := granting(want.Grants)
			sort.Slice(want.Grants, func(i, j int) bool { return grants.Less(want.Grants[i], want.Grants[j]) })
			for _, s := range []string{forth, back, granting(want.Grants), forth + back, strings.Repeat(forth, 3)} {
				right(t, head+s, want) // of those that stand twice, one counts
			}
		}
	}
	for _, size := range []int{65, 66, 128, 256, 320, 1000} {
		wrong(t, head+granting(all[:size]), 0, 0)
	}
}

// TestParseOfManyTexts has lines of words that are right at some place, and of words that are right at none.
func TestParseOfManyTexts(t *testing.T) {
	roll := dice(2)
	words := []string{"label", "under", "grant", "a", "b", "c", "é", "a", "b", "9", "4", "1000", "3", "1001", "00009", "0009", "x1", "\xff", "\uFFFD", "labels", "日本", "#", "# c", "abcdefghijklm"}
	spaces := []string{" ", " ", " ", "\t", "  ", " \t", "", "#"}
	head := []string{"", "label a 9\n", "label b 9\nlabel a 9\n", "label a 9\nlabel b 9\nunder a b\n", "\n#é\nlabel a 9\nlabel b 9\nlabel c 9\nunder a b\nunder b c\n"}
	fine := 0
	for range 60000 {
		s := head[roll(len(head))]
		for range 1 + roll(3) {
			s += spaces[roll(len(spaces))]
			if roll(3) > 0 {
				s += words[roll(3)] + " "
			}
			for range roll(5) {
				s += words[roll(len(words))] + spaces[roll(len(spaces))]
			}
			s += []string{"\n", "\n", "\n\n", ""}[roll(4)]
		}
		plain(t, s)
		if _, e, _, _ := plainParse(s); e == api.OK {
			fine++
		}
		if t.Failed() {
			return
		}
	}
	if fine < 1000 {
		t.Errorf("%d texts are right", fine)
	}
}

// TestParseOfChangedTexts has texts of configurations with a byte changed, taken out or put in.
func TestParseOfChangedTexts(t *testing.T) {
	roll := dice(3)
	bytes := []byte(" \t\n#aAbzé019x\xff\x80\x00\r\uFFFD")
	for _, c := range some(t) {
		s := plainShow(c)
		for range 3000 / len(s) * 10 {
			i := roll(len(s))
			put := string(bytes[roll(len(bytes))])
			plain(t, s[:i]+string([]byte(put))+s[i+1:])
			plain(t, s[:i]+s[i+1:])
			plain(t, s[:i]+put+s[i:])
			plain(t, s[:i])
		}
	}
}

func TestParseOfAnyBytes(t *testing.T) {
	roll := dice(4)
	for range 20000 {
		b := make([]byte, roll(12))
		for i := range b {
			b[i] = byte(roll(256))
		}
		plain(t, string(b))
		plain(t, "label "+string(b)+" 9")
		plain(t, "label a 9\nunder a a "+string(b))
	}
}

func TestParseOfLongTexts(t *testing.T) {
	wrong(t, strings.Repeat("\n", 100000)+"x", 100001, 1)
	wrong(t, strings.Repeat(" ", 100000)+"x", 1, 100001)
	wrong(t, "label a 9"+strings.Repeat(" ", 100000)+strings.Repeat("x", 100000), 1, 100010)
	wrong(t, "label a 9"+strings.Repeat(" x", 100000), 1, 11)
	wrong(t, "label "+strings.Repeat("é", 100000)+" 9", 1, 7)
	wrong(t, "label a "+strings.Repeat("0", 100000)+"9", 1, 9)
	wrong(t, strings.Repeat("é", 100000), 1, 1)
	right(t, "label a 9"+strings.Repeat("\nunder a a", 100000)+"\n#"+strings.Repeat("é\xff", 100000), api.Conf{Names: []string{"a"}, Up: []uint64{1}, Quotas: []int{9}})
}

// P5.3

func TestShowKnown(t *testing.T) {
	for _, x := range []struct {
		c    api.Conf
		want string
	}{
		{api.Conf{}, ""},
		{api.Conf{Names: []string{"a"}, Up: []uint64{1}, Quotas: []int{4}}, "label a 4\n"},
		{api.Conf{Names: []string{"a", "b"}, Up: []uint64{3, 2}, Quotas: []int{9, 9}}, "label a 9\nlabel b 9\nunder a b\n"},
		{api.Conf{Names: []string{"a", "b"}, Up: []uint64{1, 3}, Quotas: []int{9, 1000}}, "label a 9\nlabel b 1000\nunder b a\n"},
		{api.Conf{Names: []string{"low", "high"}, Up: []uint64{3, 2}, Quotas: []int{40, 50}, Grants: []api.Grant{{Actor: 1, From: 1, To: 0}}}, "label low 40\nlabel high 50\nunder low high\ngrant high high low\n"},
		{
			api.Conf{Names: []string{"d", "c", "b", "é"}, Up: diamond(), Quotas: []int{4, 10, 100, 1000}, Grants: []api.Grant{{Actor: 1, From: 1, To: 0}, {Actor: 3, From: 1, To: 2}, {Actor: 3, From: 2, To: 0}}},
			"label d 4\nlabel c 10\nlabel b 100\nlabel é 1000\nunder d c\nunder d b\nunder d é\nunder c é\nunder b é\ngrant c c d\ngrant é c b\ngrant é b d\n",
		},
		{api.Conf{Names: []string{"a", "b"}, Up: []uint64{1, 2}, Quotas: []int{9, 9}}, ""},
		{api.Conf{Names: []string{"a"}, Up: []uint64{1}, Quotas: []int{3}}, ""},
		{api.Conf{Names: []string{"a\n"}, Up: []uint64{1}, Quotas: []int{9}}, ""},
		{api.Conf{Names: []string{"a", "b"}, Up: []uint64{3, 2}, Quotas: []int{9, 9}, Grants: []api.Grant{{Actor: 2, From: 1, To: 0}}}, ""},
	} {
		if got := conf.Show(x.c); got != x.want {
			t.Errorf("Show(%v) = %q, want %q", x.c, got, x.want)
		}
	}
}

func TestShow(t *testing.T) {
	for _, c := range some(t) {
		if got, want := conf.Show(c), plainShow(c); got != want || got == "" {
			t.Errorf("Show(%v) = %q, want %q", c, got, want)
		}
	}
}

// P5.4

func TestParseOfShow(t *testing.T) {
	for _, c := range some(t) {
		s := conf.Show(c)
		right(t, s, c)
		right(t, strings.TrimSuffix(s, "\n"), c)
		right(t, strings.ReplaceAll(s, "\n", " # é\n\n"), c)
	}
}

// TestParseOfShowOfWhatMayBe goes through rows of three labels, and grants of them: what Check accepts comes back.
func TestParseOfShowOfWhatMayBe(t *testing.T) {
	count := 0
	for a := range uint64(8) {
		for b := range uint64(8) {
			for c := range uint64(8) {
				up := []uint64{a, b, c}
				for _, g := range append(fitting(ladder(3)), api.Grant{}, api.Grant{Actor: 0, From: 1, To: 2}, api.Grant{Actor: 1, From: 0, To: 2}) {
					x := made(up, g)
					s := conf.Show(x)
					if (s != "") != plainCheck(x) || conf.Check(x) != plainCheck(x) {
						t.Errorf("Check(%v) = %v, Show is %q", x, conf.Check(x), s)
					}
					if s != "" {
						right(t, s, x)
						count++
					}
				}
			}
		}
	}
	if count == 0 {
		t.Error("none may be")
	}
}

// Rule 3: arguments are neither modified nor retained, and results are in new memory.

func TestArgumentsAreLeft(t *testing.T) {
	good := made(diamond(), api.Grant{Actor: 1, From: 1, To: 0}, api.Grant{Actor: 3, From: 2, To: 1})
	turned := copied(good)
	slices.Reverse(turned.Grants)
	for _, c := range []api.Conf{good, turned} {
		whole := api.Conf{Names: append(c.Names, "spare"), Up: append(c.Up, 77), Quotas: append(c.Quotas, 88), Grants: append(c.Grants, api.Grant{Actor: 9})}
		want := copied(whole)
		part := api.Conf{Names: whole.Names[:4], Up: whole.Up[:4], Quotas: whole.Quotas[:4], Grants: whole.Grants[:2]}
		conf.Check(part)
		conf.Show(part)
		if !same(whole, want) {
			t.Errorf("the argument became %v, want %v", whole, want)
		}
	}
}

func TestResultsAreNewMemory(t *testing.T) {
	const text = "label a 9\nlabel b 9\nunder a b\ngrant b b a\n"
	first, _, _, _ := conf.Parse(text)
	first.Names[0], first.Up[0], first.Quotas[0], first.Grants[0] = "x", 0, 0, api.Grant{}
	want := api.Conf{Names: []string{"a", "b"}, Up: []uint64{3, 2}, Quotas: []int{9, 9}, Grants: []api.Grant{{Actor: 1, From: 1, To: 0}}}
	right(t, text, want)
}

// Rule 4: what a call returns doesn't hang on earlier ones.
func TestCallsAreAlone(t *testing.T) {
	c := made(diamond(), api.Grant{Actor: 3, From: 2, To: 1})
	s := conf.Show(c)
	for range 3 {
		wrong(t, s+"x", strings.Count(s, "\n")+1, 1)
		wrong(t, s+"grant", strings.Count(s, "\n")+1, 6)
		right(t, s, c)
		wrong(t, "", 0, 0)
		if conf.Show(c) != s {
			t.Error("Show differs")
		}
	}
}
