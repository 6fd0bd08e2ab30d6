package check_test

import (
	"bytes"
	"crypto/sha256"
	"fmt"
	"math"
	mathbits "math/bits"
	"math/rand"
	"slices"
	"strings"
	"testing"

	"heartwood/api"
	"heartwood/avl"
	"heartwood/check"
	"heartwood/proof"
	"heartwood/scan"
	"heartwood/tree"
)

// badWidths are those outside of 1 to 32, the ones next to it among them.
var badWidths = []int{0, -1, -2, -32, -33, math.MinInt, 33, 34, 64, 256 + 1, 1<<16 + 1, math.MaxInt}

// span is the range from one key up to another.
func span(from, to string) api.Span { return api.Span{From: []byte(from), To: []byte(to)} }

// open is the range from a key on. It has an end too, which says nothing.
func open(from string) api.Span { return api.Span{From: []byte(from), To: []byte("\x00"), Open: true} }

// spansOf are the ranges with all those ends, whichever is the lesser one, and
// those that are open.
func spansOf(ends ...string) []api.Span {
	var out []api.Span
	for _, from := range ends {
		out = append(out, open(from))
		for _, to := range ends {
			out = append(out, span(from, to))
		}
	}
	return out
}

func spell(s api.Span) string {
	if s.Open {
		return fmt.Sprintf("from %.40q on", s.From)
	}
	return fmt.Sprintf("from %.40q to %.40q", s.From, s.To)
}

func node(l api.Tree, key, value string, r api.Tree) api.Tree {
	return api.Tree{Kind: api.TreeNode, Key: []byte(key), Value: []byte(value), Kids: []api.Tree{l, r}}
}

func dark(l api.Tree, key string, digest []byte, r api.Tree) api.Tree {
	return api.Tree{Kind: api.TreeDark, Key: []byte(key), Digest: digest, Kids: []api.Tree{l, r}}
}

func cut(digest []byte) api.Tree { return api.Tree{Kind: api.TreeCut, Digest: digest} }

// sum, valueSum and digestOf are layers 3 and 4 by the document's words.
func sum(w int, pieces ...[]byte) []byte {
	d := sha256.Sum256(slices.Concat(pieces...))
	return d[:w]
}

func valueSum(w int, value string) []byte { return sum(w, []byte{0}, []byte(value)) }

func digestOf(w int, p api.Tree) []byte {
	switch p.Kind {
	case api.TreeNone:
		return sum(w, []byte{3})
	case api.TreeCut:
		return p.Digest
	}
	value := p.Digest
	if p.Kind == api.TreeNode {
		value = valueSum(w, string(p.Value))
	}
	pair := sum(w, []byte{1, byte(len(p.Key))}, p.Key, value)
	return sum(w, []byte{2}, digestOf(w, p.Kids[0]), pair, digestOf(w, p.Kids[1]))
}

// built makes a proof of a drawing: a node is (left key right), a dark node
// [left key right], a cut any text in angles, and the empty tree a dot. The
// value of each key is the key behind a v, and the digest of each cut comes of
// its text.
func built(w int, drawing string) api.Tree {
	var part func() api.Tree
	part = func() api.Tree {
		c := drawing[0]
		drawing = drawing[1:]
		switch c {
		case '.':
			return api.Tree{}
		case '<':
			text, rest, _ := strings.Cut(drawing, ">")
			drawing = rest
			return cut(sum(w, []byte("cut"), []byte(text)))
		}
		left := part()
		key := drawing[:strings.IndexAny(drawing, ".<([")]
		drawing = drawing[len(key):]
		right := part()
		drawing = drawing[1:]
		if c == '(' {
			return node(left, key, "v"+key, right)
		}
		return dark(left, key, valueSum(w, "v"+key), right)
	}
	return part()
}

// inOrder are all parts of a tree: nodes, cuts and empty trees.
func inOrder(p api.Tree) []api.Tree {
	if len(p.Kids) != 2 {
		return []api.Tree{p}
	}
	return slices.Concat(inOrder(p.Kids[0]), []api.Tree{p}, inOrder(p.Kids[1]))
}

func isNode(part api.Tree) bool { return part.Kind == api.TreeNode || part.Kind == api.TreeDark }

func spelledIn(s api.Span, key string) bool {
	return string(s.From) <= key && (s.Open || key < string(s.To))
}

// mayHide reports whether a key of the range may stand among the parts at a
// place: the least such key is From, or else the key before the place with a
// zero byte behind it.
func mayHide(s api.Span, parts []api.Tree, at int) bool {
	candidates := []string{string(s.From)}
	above := func(string) bool { return true }
	for i := at - 1; i >= 0; i-- {
		if low := string(parts[i].Key); isNode(parts[i]) {
			candidates = append(candidates, low+"\x00")
			above = func(key string) bool { return key > low }
			break
		}
	}
	below := func(string) bool { return true }
	for i := at + 1; i < len(parts); i++ {
		if high := string(parts[i].Key); isNode(parts[i]) {
			below = func(key string) bool { return key < high }
			break
		}
	}
	return slices.ContainsFunc(candidates, func(key string) bool {
		return spelledIn(s, key) && above(key) && below(key)
	})
}

// spelled is P8.1 by the document's words.
func spelled(w int, root []byte, s api.Span, p api.Tree) ([]api.Pair, error) {
	if w < 1 || w > 32 || len(root) != w {
		return nil, api.ErrArg
	}
	if _, err := tree.Digest(w, p); err != nil {
		return nil, err
	}
	if !bytes.Equal(digestOf(w, p), root) {
		return nil, api.ErrRoot
	}
	parts := inOrder(p)
	nodes := slices.DeleteFunc(slices.Clone(parts), func(part api.Tree) bool { return !isNode(part) })
	for i := range nodes {
		if i > 0 && string(nodes[i-1].Key) >= string(nodes[i].Key) {
			return nil, api.ErrOrder
		}
	}
	var pairs []api.Pair
	for i, part := range parts {
		isIn := spelledIn(s, string(part.Key))
		if part.Kind == api.TreeDark && isIn || part.Kind == api.TreeCut && mayHide(s, parts, i) {
			return nil, api.ErrOpen
		}
		if part.Kind == api.TreeNode && isIn {
			pairs = append(pairs, api.Pair{Key: part.Key, Value: part.Value})
		}
	}
	return pairs, nil
}

// samePairs compares by what is said: nil and empty are one.
func samePairs(a, b []api.Pair) bool {
	return slices.EqualFunc(a, b, func(p, q api.Pair) bool {
		return bytes.Equal(p.Key, q.Key) && bytes.Equal(p.Value, q.Value)
	})
}

// mustAgree holds both functions against the document's words, Bytes for both
// ends of the range.
func mustAgree(t testing.TB, w int, root []byte, s api.Span, p api.Tree) ([]api.Pair, error) {
	t.Helper()
	want, wantErr := spelled(w, root, s, p)
	pairs, err := check.Check(w, root, s, p)
	if err != wantErr || !samePairs(pairs, want) {
		t.Errorf("Check(%d, %x), %s, of %+v = %q, %v, want %q, %v", w, root, spell(s), p, pairs, err, want, wantErr)
	}
	mustAgreeAt(t, w, root, s.From, p)
	mustAgreeAt(t, w, root, s.To, p)
	return pairs, err
}

func mustAgreeAt(t testing.TB, w int, root, key []byte, p api.Tree) {
	t.Helper()
	want, wantErr := spelled(w, root, span(string(key), string(key)+"\x00"), p)
	var wantValue []byte
	if len(want) > 0 {
		wantValue = want[0].Value
	}
	value, is, err := check.Bytes(w, root, key, p)
	if err != wantErr || is != (len(want) > 0) || !bytes.Equal(value, wantValue) {
		t.Errorf("Bytes(%d, %x) for %.40q of %+v = %q, %v, %v, want %q, %v", w, root, key, p, value, is, err, want, wantErr)
	}
}

// told is what Check tells: the error, which must be a plain Code with no pairs
// beside it, or the keys.
func told(pairs []api.Pair, err error) string {
	names := []string{"", "ErrArg", "", "ErrForm", "", "ErrDepth", "ErrRoot", "ErrOrder", "ErrOpen"}
	if err != nil {
		code, ok := err.(api.Code)
		if !ok || len(pairs) > 0 {
			return fmt.Sprintf("%q, %v", pairs, err)
		}
		return names[code]
	}
	var keys []string
	for _, pair := range pairs {
		keys = append(keys, string(pair.Key))
		if string(pair.Value) != "v"+string(pair.Key) {
			return fmt.Sprintf("%q", pairs)
		}
	}
	return fmt.Sprintf("%q", keys)
}

// claim is a range and what a proof tells of it.
type claim struct {
	s    api.Span
	want string
}

// mustTell holds a proof against claims, under its own digest.
func mustTell(t *testing.T, drawing string, claims []claim) {
	t.Helper()
	for _, w := range []int{4, 31, 32} {
		p := built(w, drawing)
		for _, c := range claims {
			if got := told(mustAgree(t, w, digestOf(w, p), c.s, p)); got != c.want {
				t.Errorf("%q, %s, tells %s, want %s", drawing, spell(c.s), got, c.want)
			}
		}
	}
}

// mustTellOfAll wants the same of a proof for all ranges.
func mustTellOfAll(t *testing.T, drawing, want string, spans []api.Span) {
	t.Helper()
	for _, s := range spans {
		mustTell(t, drawing, []claim{{s, want}})
	}
}

// P8.1

func TestExamples(t *testing.T) {
	for _, s := range spansOf("", "a", "b") {
		if pairs, err := check.Check(1, []byte{0x08}, s, api.Tree{}); len(pairs) != 0 || err != nil {
			t.Errorf("Check of the empty tree, %s = %q, %v", spell(s), pairs, err)
		}
	}
	for _, from := range []string{"", "a", "\xff\xff"} {
		if pairs, err := check.Check(1, []byte{0xff}, open(from), cut([]byte{0xff})); len(pairs) != 0 || err != api.ErrOpen {
			t.Errorf("Check of a cut, %s = %q, %v", spell(open(from)), pairs, err)
		}
	}
}

// fewEnds are some ends of ranges: keys of the drawings, and others next to
// them.
func fewEnds() []string {
	return []string{"", "\x00", "a", "a\x00", "b", "b\x00", "c", "d", "\xff"}
}

func TestTheEmptyTree(t *testing.T) {
	mustTellOfAll(t, ".", "[]", spansOf(fewEnds()...))
	mustTell(t, ".", []claim{{api.Span{}, "[]"}, {api.Span{Open: true}, "[]"}})
}

// TestACutAlone: it tells all of a range without keys, and nothing else.
func TestACutAlone(t *testing.T) {
	mustTell(t, "<all>", []claim{
		{open(""), "ErrOpen"},
		{open("b"), "ErrOpen"},
		{span("", "\x00"), "ErrOpen"},
		{span("", "b"), "ErrOpen"},
		{span("a", "b"), "ErrOpen"},
		{span("a", "a\x00"), "ErrOpen"},
		{api.Span{}, "[]"},
		{span("a", "a"), "[]"},
		{span("b", "a"), "[]"},
		{span("a\x00", "a"), "[]"},
		{span("a", ""), "[]"},
	})
}

func TestOneNode(t *testing.T) {
	mustTell(t, "(.b.)", []claim{
		{open(""), `["b"]`},
		{open("b"), `["b"]`},
		{open("b\x00"), "[]"},
		{span("b", "b\x00"), `["b"]`},
		{span("a", "c"), `["b"]`},
		{span("a", "b"), "[]"},
		{span("c", "d"), "[]"},
		{span("b", "b"), "[]"},
		{span("c", "a"), "[]"},
		{span("b", ""), "[]"},
	})
	mustTell(t, "(..)", []claim{
		{open(""), `[""]`},
		{span("", "\x00"), `[""]`},
		{span("", ""), "[]"},
		{open("\x00"), "[]"},
		{span("a", ""), "[]"},
	})
}

// TestOneDarkNode: its value is missing where its key is in the range.
func TestOneDarkNode(t *testing.T) {
	mustTell(t, "[.b.]", []claim{
		{open(""), "ErrOpen"},
		{open("b"), "ErrOpen"},
		{open("b\x00"), "[]"},
		{span("b", "b\x00"), "ErrOpen"},
		{span("a", "c"), "ErrOpen"},
		{span("a", "b"), "[]"},
		{span("b\x00", "d"), "[]"},
		{span("b", "b"), "[]"},
		{span("c", "a"), "[]"},
	})
	mustTell(t, "[..]", []claim{
		{open(""), "ErrOpen"},
		{span("", "\x00"), "ErrOpen"},
		{span("", ""), "[]"},
		{open("\x00"), "[]"},
		{span("a", ""), "[]"},
	})
}

func TestCutsOnTheLeft(t *testing.T) {
	mustTell(t, "(<l>b.)", []claim{
		{open("b"), `["b"]`},
		{open("b\x00"), "[]"},
		{span("b", "z"), `["b"]`},
		{span("b", "b"), "[]"},
		{span("b", "a"), "[]"},
		{span("z", "a"), "[]"},
		{open(""), "ErrOpen"},
		{open("a\xff\xff"), "ErrOpen"},
		{span("a", "b"), "ErrOpen"},
		{span("", "\x00"), "ErrOpen"},
		{span("a", "c"), "ErrOpen"},
	})
	mustTell(t, "[<l>b.]", []claim{
		{open("b\x00"), "[]"},
		{open("b"), "ErrOpen"},
		{span("b\x00", "c"), "[]"},
		{span("a", "b"), "ErrOpen"},
	})
}

func TestCutsOnTheRight(t *testing.T) {
	mustTell(t, "(.b<r>)", []claim{
		{span("", "b\x00"), `["b"]`},
		{span("b", "b\x00"), `["b"]`},
		{span("", "b"), "[]"},
		{span("z", "z"), "[]"},
		{span("z", "c"), "[]"},
		{span("b\x00", "b\x00"), "[]"},
		{open(""), "ErrOpen"},
		{open("b"), "ErrOpen"},
		{open("z"), "ErrOpen"},
		{span("b", "b\x00\x00"), "ErrOpen"},
		{span("b", "b\x01"), "ErrOpen"},
		{span("b\x00", "b\x01"), "ErrOpen"},
		{span("y", "z"), "ErrOpen"},
	})
	mustTell(t, "[.b<r>]", []claim{
		{span("", "b"), "[]"},
		{span("", "b\x00"), "ErrOpen"},
		{span("b\x00", "c"), "ErrOpen"},
	})
}

func TestCutsOnBothSides(t *testing.T) {
	mustTell(t, "(<l>b<r>)", []claim{
		{span("b", "b\x00"), `["b"]`},
		{span("b", "b"), "[]"},
		{span("c", "c"), "[]"},
		{span("a", "b\x00"), "ErrOpen"},
		{span("b", "b\x00\x00"), "ErrOpen"},
		{span("a", "b"), "ErrOpen"},
		{span("c", "d"), "ErrOpen"},
		{open("b"), "ErrOpen"},
	})
	mustTell(t, "[(<l>b.)d(.f<r>)]", []claim{
		{span("b", "d"), `["b"]`},
		{span("d\x00", "f\x00"), `["f"]`},
		{span("b", "d\x00"), "ErrOpen"},
		{span("a", "d"), "ErrOpen"},
		{span("e", "g"), "ErrOpen"},
	})
	mustTell(t, "([<l>b.]d[.f<r>])", []claim{
		{span("d", "e"), `["d"]`},
		{span("b\x00", "f"), `["d"]`},
		{span("b", "f"), "ErrOpen"},
		{span("b\x00", "f\x00"), "ErrOpen"},
		{span("f\x00", "g"), "ErrOpen"},
		{span("a", "b"), "ErrOpen"},
	})
}

func TestNoCuts(t *testing.T) {
	mustTell(t, "([.b.]d(.f[.h.]))", []claim{
		{span("b\x00", "h"), `["d" "f"]`},
		{span("c", "e"), `["d"]`},
		{span("e", "f"), "[]"},
		{span("f", "g"), `["f"]`},
		{span("", "b"), "[]"},
		{open("h\x00"), "[]"},
		{open("h"), "ErrOpen"},
		{open(""), "ErrOpen"},
		{span("b", "h"), "ErrOpen"},
		{span("d", "h\x00"), "ErrOpen"},
	})
	mustTell(t, "((.b.)d(.f(.h.)))", []claim{
		{open(""), `["b" "d" "f" "h"]`},
		{span("d", "h"), `["d" "f"]`},
	})
}

// TestCutsBetweenKeys: the keys next to a cut may stand far above it.
func TestCutsBetweenKeys(t *testing.T) {
	mustTell(t, "((.b<gap>)d.)", []claim{
		{open("d"), `["d"]`},
		{span("", "b\x00"), `["b"]`},
		{span("b", "b"), "[]"},
		{open("c"), "ErrOpen"},
		{span("b", "d"), "ErrOpen"},
		{span("c", "d"), "ErrOpen"},
		{span("b", "c"), "ErrOpen"},
		{span("c\xff", "d"), "ErrOpen"},
		{open(""), "ErrOpen"},
	})
	mustTell(t, "(.b((<gap>h.)j(.l.)))", []claim{
		{open("h"), `["h" "j" "l"]`},
		{span("", "b\x00"), `["b"]`},
		{span("h", "l"), `["h" "j"]`},
		{span("b", "h"), "ErrOpen"},
		{span("b\x00", "b\x00\x00"), "ErrOpen"},
		{span("g", "j"), "ErrOpen"},
	})
	mustTell(t, "((.b(.d(.f<gap>)))h(.j.))", []claim{
		{open("h"), `["h" "j"]`},
		{span("", "f\x00"), `["b" "d" "f"]`},
		{span("d", "h"), "ErrOpen"},
		{span("g", "z"), "ErrOpen"},
	})
	mustTell(t, "((.b<one>)d(<two>f.))", []claim{
		{span("d", "d\x00"), `["d"]`},
		{span("", "b\x00"), `["b"]`},
		{open("f"), `["f"]`},
		{span("c", "d\x00"), "ErrOpen"},
		{span("d", "e"), "ErrOpen"},
		{open(""), "ErrOpen"},
	})
}

// TestCutsWhereNoKeyLies: nothing can be hidden there, whatever the range.
func TestCutsWhereNoKeyLies(t *testing.T) {
	for drawing, all := range map[string]string{
		"(.a(<gap>a\x00.))":                    `["a" "a\x00"]`,
		"((.a<gap>)a\x00.)":                    `["a" "a\x00"]`,
		"(<gap>.)":                             `[""]`,
		"((<gap>.)b.)":                         `["" "b"]`,
		"(<one>(<two>\x00.))":                  `["" "\x00"]`,
		"((<one><two>)\x00(<three>\x00\x00.))": `["" "\x00" "\x00\x00"]`,
		"(((.a<one>)a\x00<two>)a\x00\x00.)":    `["a" "a\x00" "a\x00\x00"]`,
		"(.\xff(<gap>\xff\x00.))":              `["\xff" "\xff\x00"]`,
	} {
		mustTell(t, drawing, []claim{{open(""), all}, {span("", "\xff\xff"), all}, {span("a", "a"), "[]"}})
	}
	long := strings.Repeat("a", 79)
	mustTell(t, "(."+long+"(<gap>"+long+"\x00.))", []claim{{open(long), fmt.Sprintf("%q", []string{long, long + "\x00"})}})
}

// TestCutsWhereAKeyLies holds the nearest neighbours between which there is a
// key, also one that no tree could have.
func TestCutsWhereAKeyLies(t *testing.T) {
	mustTell(t, "(.a(<gap>a\x00\x00.))", []claim{
		{open("a"), "ErrOpen"},
		{span("a\x00", "a\x00\x00"), "ErrOpen"},
		{span("a", "a\x00"), `["a"]`},
		{open("a\x00\x00"), `["a\x00\x00"]`},
		{open("a\x00\x00\x00"), "[]"},
	})
	mustTell(t, "(.a(<gap>a\x01.))", []claim{
		{span("a\x00", "a\x01"), "ErrOpen"},
		{span("a\x00\xff", "a\x01"), "ErrOpen"},
		{open("a\x01"), `["a\x01"]`},
	})
	mustTell(t, "(<gap>\x00.)", []claim{
		{span("", "\x00"), "ErrOpen"},
		{open(""), "ErrOpen"},
		{open("\x00"), `["\x00"]`},
	})
	longest := strings.Repeat("a", 80)
	mustTell(t, "(."+longest+"(<gap>b.))", []claim{
		{span(longest+"\x00", "b"), "ErrOpen"},
		{span(longest, longest+"\x00"), fmt.Sprintf("%q", []string{longest})},
		{span(strings.Repeat("a", 200), "b"), "ErrOpen"},
	})
}

// TestDarkNodesInTheRange: wherever they stand.
func TestDarkNodesInTheRange(t *testing.T) {
	for _, drawing := range []string{
		"[(.b.)d(.f.)]", "([.b.]d(.f.))", "((.b.)d[.f.])", "[[.b.]d[.f.]]", "(.b[.d(.f.)])", "[<l>d<r>]", "((<l>b.)d[.f<r>])",
	} {
		mustTell(t, drawing, []claim{{open(""), "ErrOpen"}, {span("b", "g"), "ErrOpen"}, {span("d", "d"), "[]"}, {span("g", "a"), "[]"}})
	}
	mustTell(t, "([.b.]d[.f.])", []claim{
		{span("b", "b\x00"), "ErrOpen"},
		{span("b\x00", "f"), `["d"]`},
		{span("b\x00", "f\x00"), "ErrOpen"},
		{open("f\x00"), "[]"},
	})
}

// TestKeysThatDoNotAscend: also where they stand far from each other, are not
// in the range, or the range has no keys.
func TestKeysThatDoNotAscend(t *testing.T) {
	for _, drawing := range []string{
		"((.b.)a.)", "(.b(.a.))", "([.b.]a.)", "[.b(.a.)]", "[.b[.a.]]",
		"((.a.)a.)", "(.a(.a.))", "[.a(.a.)]", "(.a[.a.])", "[[.a.]a.]",
		"((..).)", "(.(..))", "[.(..)]", "((..)(..))",
		"((.a\x00.)a.)", "(.a(..))", "(.\x80(.\x7f.))", "(.aa(.a.))",
		"((.a(.d.))c(.e.))", "((.a.)c((.b.)e.))", "((.a(.c.))c.)", "(.c((.c.)d.))", "((.a.)b(.c(.b.)))",
		"((.a<x>)a.)", "(<x>a(<x>a<x>))", "((<x>b<x>)a<x>)", "(.a(.b(.c(.d(.e(.e.))))))",
	} {
		mustTellOfAll(t, drawing, "ErrOrder", spansOf("", "a", "b", "z"))
	}
}

// stacked is a chain of so many nodes above p, each with p on that side, the
// keys of which ascend.
func stacked(n int, p api.Tree, side int) api.Tree {
	for i := range n {
		next := node(api.Tree{}, string([]byte{byte(100 - i)}), "", api.Tree{})
		if side == 0 {
			next.Key[0] = byte(100 + i)
		}
		next.Kids[side] = p
		p = next
	}
	return p
}

// TestProofsNeedNotBeBalanced: 64 levels may hold any nodes.
func TestProofsNeedNotBeBalanced(t *testing.T) {
	for side := range 2 {
		p := stacked(64, api.Tree{}, side)
		if pairs, err := mustAgree(t, 32, digestOf(32, p), open(""), p); len(pairs) != 64 || err != nil {
			t.Errorf("a chain of 64 nodes: %d pairs, %v", len(pairs), err)
		}
		p = stacked(64, cut(sum(32)), side)
		mustAgree(t, 32, digestOf(32, p), open(""), p)
		if _, err := check.Check(32, digestOf(32, p), span("d", "d"), p); err != nil {
			t.Error(err)
		}
	}
	mustTell(t, "(((.a.)b.)c(.d(.e(.f.))))", []claim{{open("b"), `["b" "c" "d" "e" "f"]`}})
}

// endless is a tree that contains itself.
func endless() api.Tree {
	kids := make([]api.Tree, 2)
	kids[1] = api.Tree{Kind: api.TreeNode, Key: []byte("a"), Kids: kids}
	return kids[1]
}

func TestTreesThatAreTooDeep(t *testing.T) {
	bad := api.Tree{Kind: 4}
	for what, p := range map[string]api.Tree{
		"a chain to the left":          stacked(65, api.Tree{}, 0),
		"a chain to the right":         stacked(65, api.Tree{}, 1),
		"a chain over a dark node":     stacked(64, dark(api.Tree{}, "z", sum(32), api.Tree{}), 1),
		"a chain over what is no tree": stacked(65, bad, 1),
		"a chain with another digest":  stacked(64, dark(api.Tree{}, "z", sum(31), api.Tree{}), 1),
		"a tree that contains itself":  endless(),
	} {
		for _, s := range spansOf("", "a", "b") {
			if got := told(mustAgree(t, 32, sum(32, []byte(what)), s, p)); got != "ErrDepth" {
				t.Errorf("%s: %s", what, got)
			}
		}
	}
}

// malformed are parts that are not as defined, or have a digest of another
// length than w.
func malformed(w int) map[string]api.Tree {
	empty := api.Tree{}
	alone := []api.Tree{empty, empty}
	return map[string]api.Tree{
		"a kind -1":                       {Kind: -1},
		"a kind 4":                        {Kind: 4},
		"a none with a Key":               {Key: []byte("a")},
		"a none with a Value":             {Value: []byte("a")},
		"a none with a Digest":            {Digest: sum(w)},
		"a none with Kids":                {Kids: alone},
		"a node without Kids":             {Kind: api.TreeNode},
		"a node with a Kid":               {Kind: api.TreeNode, Kids: alone[:1]},
		"a node with three Kids":          {Kind: api.TreeNode, Kids: []api.Tree{empty, empty, empty}},
		"a node with a Digest":            {Kind: api.TreeNode, Digest: sum(w), Kids: alone},
		"a node with a key of 81 bytes":   node(empty, strings.Repeat("a", 81), "", empty),
		"a value of 1025 bytes":           node(empty, "a", strings.Repeat("a", 1025), empty),
		"a dark node with a Value":        {Kind: api.TreeDark, Value: []byte("a"), Digest: sum(w), Kids: alone},
		"a dark node with a Kid":          {Kind: api.TreeDark, Digest: sum(w), Kids: alone[:1]},
		"a dark key of 81 bytes":          dark(empty, strings.Repeat("a", 81), sum(w), empty),
		"a dark node without a Digest":    dark(empty, "a", nil, empty),
		"a dark node with a short Digest": dark(empty, "a", sum(w-1), empty),
		"a dark node with a long Digest":  dark(empty, "a", append(sum(w), 0), empty),
		"a cut with a Key":                {Kind: api.TreeCut, Key: []byte("a"), Digest: sum(w)},
		"a cut with a Value":              {Kind: api.TreeCut, Value: []byte("a"), Digest: sum(w)},
		"a cut with Kids":                 {Kind: api.TreeCut, Digest: sum(w), Kids: alone},
		"a cut without a Digest":          cut(nil),
		"a cut with a short Digest":       cut(sum(w - 1)),
		"a cut with a long Digest":        cut(append(sum(w), 0)),
	}
}

// TestTreesThatAreNotWellFormed: wherever the part stands, and also where
// the range has no keys.
func TestTreesThatAreNotWellFormed(t *testing.T) {
	for _, w := range []int{1, 20, 32} {
		for what, part := range malformed(w) {
			for _, p := range []api.Tree{
				part, node(part, "b", "", api.Tree{}), node(api.Tree{}, "b", "", part), dark(part, "b", sum(w), part),
				node(node(api.Tree{}, "a", "", part), "b", "", cut(sum(w))), stacked(62, part, 0), stacked(62, part, 1),
			} {
				for _, s := range []api.Span{{}, open(""), open("z"), span("a", "b"), span("b", "a")} {
					if got := told(mustAgree(t, w, sum(w), s, p)); got != "ErrForm" {
						t.Errorf("%s, width %d, %s: %s", what, w, spell(s), got)
					}
				}
			}
		}
	}
}

// someTrees are proofs that are accepted for some ranges, and others.
func someTrees(w int) []api.Tree {
	drawings := []string{".", "<x>", "(.b.)", "[.b.]", "(<x>b<y>)", "[(.a.)b<y>]", "((.b.)a.)", "([.a.]b(.c(.d<x>)))"}
	var out []api.Tree
	for _, drawing := range drawings {
		out = append(out, built(w, drawing))
	}
	return out
}

func TestAllWidths(t *testing.T) {
	for w := 1; w <= 32; w++ {
		for _, p := range someTrees(w) {
			for _, s := range spansOf("", "a", "b", "c") {
				mustAgree(t, w, digestOf(w, p), s, p)
			}
		}
		mustAgree(t, w, digestOf(w, built(w, "((.a.)b<x>)")), span("a", "b\x00"), built(w, "((.a.)b<x>)"))
	}
}

// TestOtherWidths: the width goes before all else, whatever the root is.
func TestOtherWidths(t *testing.T) {
	trees := append(someTrees(32), endless(), api.Tree{Kind: 4}, cut(nil))
	for _, w := range badWidths {
		roots := [][]byte{nil, {}, {8}, sum(32)}
		if w > 0 && w < 1000 {
			roots = append(roots, make([]byte, w))
		}
		for _, p := range trees {
			for _, root := range roots {
				for _, s := range []api.Span{{}, open(""), span("a", "b"), span("b", "a")} {
					if got := told(mustAgree(t, w, root, s, p)); got != "ErrArg" {
						t.Errorf("Check(%d, %x), %s: %s", w, root, spell(s), got)
					}
				}
			}
		}
	}
}

// TestRootsOfOtherLengths: the length goes before what the tree is.
func TestRootsOfOtherLengths(t *testing.T) {
	for _, w := range []int{1, 2, 16, 31, 32} {
		trees := append(someTrees(w), endless(), api.Tree{Kind: 4}, cut(nil))
		for _, p := range trees {
			for _, n := range []int{0, w - 1, w + 1, w + 32, 2 * w, 256 + w} {
				root := make([]byte, n)
				if tree.Check(p) == nil {
					copy(root, digestOf(w, p))
				}
				for _, s := range []api.Span{{}, open(""), span("a", "b"), span("b", "a")} {
					if got := told(mustAgree(t, w, root, s, p)); got != "ErrArg" {
						t.Errorf("Check(%d), %d bytes, %s: %s", w, n, spell(s), got)
					}
				}
			}
			mustAgree(t, w, nil, open(""), p)
		}
	}
}

// TestOtherRoots changes each bit of a root, and takes the root of another tree
// or of another width.
func TestOtherRoots(t *testing.T) {
	for _, w := range []int{1, 20, 32} {
		for _, p := range someTrees(w) {
			root := digestOf(w, p)
			for i := range 8 * w {
				other := slices.Clone(root)
				other[i/8] ^= 1 << (i % 8)
				for _, s := range []api.Span{{}, open("z"), span("b", "b\x00")} {
					if got := told(mustAgree(t, w, other, s, p)); got != "ErrRoot" {
						t.Errorf("Check(%d, %x), %s: %s", w, other, spell(s), got)
					}
				}
			}
		}
	}
	x, p := built(32, "((.a.)b(.c.))"), built(32, "((.a.)b(.d.))")
	if got := told(mustAgree(t, 32, digestOf(32, x), span("a", "b"), p)); got != "ErrRoot" {
		t.Error(got)
	}
	if got := told(mustAgree(t, 31, digestOf(32, x)[:31], span("a", "b"), x)); got != "ErrRoot" {
		t.Error(got)
	}
}

// call is what Check is asked.
type call struct {
	w    int
	root []byte
	s    api.Span
	p    api.Tree
}

// flaws are the errors of what withFlaws may do amiss, the first one first.
var flaws = []string{"ErrArg", "ErrArg", "ErrDepth", "ErrForm", "ErrForm", "ErrRoot", "ErrOrder", "ErrOpen"}

// withFlaws makes a call that is amiss in all ways whose bit is set; the lowest
// bit is the first one of flaws.
func withFlaws(bits int) call {
	has := func(flaw int) bool { return bits>>flaw&1 == 1 }
	c := call{w: 20, s: span("b", "f")}
	var below, behind api.Tree
	if has(4) {
		below = cut(sum(19))
	}
	if has(2) {
		below = stacked(64, below, 1)
	}
	if has(3) {
		behind = api.Tree{Kind: api.TreeNone, Digest: sum(20)}
	}
	first, last := "d", "f"
	if has(6) {
		first, last = last, first
	}
	c.p = node(node(api.Tree{}, first, "v"+first, below), last, "v"+last, behind)
	if has(7) {
		c.p.Kids[0] = dark(api.Tree{}, first, valueSum(20, "v"+first), below)
		c.s = open("")
	}
	c.root = digestOf(20, c.p)
	if has(5) {
		c.root[3] ^= 4
	}
	if has(1) {
		c.root = c.root[:19]
	}
	if has(0) {
		c.w, c.root = 33, append(c.root, make([]byte, 33-len(c.root))...)
	}
	return c
}

// TestFirstErrors: where several things are amiss, the first one counts.
func TestFirstErrors(t *testing.T) {
	for bits := range 1 << len(flaws) {
		want := `["d"]`
		if bits != 0 {
			want = flaws[mathbits.TrailingZeros(uint(bits))]
		}
		c := withFlaws(bits)
		if got := told(mustAgree(t, c.w, c.root, c.s, c.p)); got != want {
			t.Errorf("with the flaws %08b: %s, want %s", bits, got, want)
		}
	}
}

// partials are all trees of so many nodes, dark or not, with those keys in any
// order, and cuts or nothing at the ends.
func partials(n int, keys []string) []api.Tree {
	if n == 0 {
		return []api.Tree{{}, cut(sum(32, []byte("cut")))}
	}
	var out []api.Tree
	for i := range n {
		for _, l := range partials(i, keys) {
			for _, r := range partials(n-1-i, keys) {
				for _, key := range keys {
					out = append(out, node(l, key, "v"+key, r), dark(l, key, valueSum(32, "v"+key), r))
				}
			}
		}
	}
	return out
}

// TestAllSmallTrees holds trees that anybody could make, with keys that lie
// next to each other, against the document's words.
func TestAllSmallTrees(t *testing.T) {
	keys := []string{"", "\x00", "a", "a\x00"} // the first three for the larger trees
	spans := spansOf("", "\x00", "a", "a\x00", "b")
	for n := range 3 {
		for _, p := range partials(n, keys) {
			for _, s := range spans {
				mustAgree(t, 32, digestOf(32, p), s, p)
			}
		}
	}
	for i, p := range partials(3, keys[:3]) {
		mustAgree(t, 32, digestOf(32, p), spans[i%len(spans)], p)
	}
}

// P8.2

// answer is a key and what a proof tells of it.
type answer struct {
	key, want string
}

// mustAnswer holds Bytes against answers, under the proof's own digest.
func mustAnswer(t *testing.T, drawing string, answers []answer) {
	t.Helper()
	for _, w := range []int{4, 32} {
		p := built(w, drawing)
		for _, a := range answers {
			mustAgreeAt(t, w, digestOf(w, p), []byte(a.key), p)
			value, is, err := check.Bytes(w, digestOf(w, p), []byte(a.key), p)
			got := "none"
			if err != nil {
				got = told(nil, err)
			} else if is {
				got = string(value)
			}
			if got != a.want || !is && value != nil {
				t.Errorf("%q tells of %.40q: %q, %v, %v, want %s", drawing, a.key, value, is, err, a.want)
			}
		}
	}
}

func TestBytes(t *testing.T) {
	long := strings.Repeat("a", 2000)
	mustAnswer(t, ".", []answer{{"", "none"}, {"a", "none"}, {long, "none"}})
	mustAnswer(t, "<x>", []answer{{"", "ErrOpen"}, {"a", "ErrOpen"}, {long, "ErrOpen"}})
	mustAnswer(t, "(.b.)", []answer{{"b", "vb"}, {"", "none"}, {"a", "none"}, {"b\x00", "none"}, {"bx", "none"}, {"c", "none"}, {long, "none"}})
	mustAnswer(t, "[.b.]", []answer{{"b", "ErrOpen"}, {"a", "none"}, {"b\x00", "none"}, {"", "none"}})
	mustAnswer(t, "(<x>b<y>)", []answer{{"b", "vb"}, {"a", "ErrOpen"}, {"b\x00", "ErrOpen"}, {"", "ErrOpen"}, {"c", "ErrOpen"}, {long, "ErrOpen"}})
	mustAnswer(t, "[<x>b(.d[.f<y>])]", []answer{{"b", "ErrOpen"}, {"b\x00", "none"}, {"c", "none"}, {"d", "vd"}, {"e", "none"},
		{"f", "ErrOpen"}, {"f\x00", "ErrOpen"}, {"g", "ErrOpen"}, {"a", "ErrOpen"}, {"", "ErrOpen"}})
	mustAnswer(t, "((.b<gap>)d.)", []answer{{"b", "vb"}, {"c", "ErrOpen"}, {"b\x00", "ErrOpen"}, {"d", "vd"}, {"a", "none"}, {"e", "none"}})
	mustAnswer(t, "(.a(<gap>a\x00.))", []answer{{"a", "va"}, {"a\x00", "va\x00"}, {"a\x00\x00", "none"}, {"", "none"}})
	mustAnswer(t, "(<gap>.)", []answer{{"", "v"}, {"\x00", "none"}})
	mustAnswer(t, "(.<gap>)", []answer{{"", "v"}, {"\x00", "ErrOpen"}, {"a", "ErrOpen"}})
	mustAnswer(t, "[.(.a.)]", []answer{{"", "ErrOpen"}, {"\x00", "none"}, {"a", "va"}})
	mustAnswer(t, "((.b.)a.)", []answer{{"a", "ErrOrder"}, {"b", "ErrOrder"}, {"c", "ErrOrder"}})
	mustAnswer(t, "((.a.)a.)", []answer{{"a", "ErrOrder"}, {"b", "ErrOrder"}})
}

// TestBytesOfEmptyValues: a value without bytes is a value.
func TestBytesOfEmptyValues(t *testing.T) {
	p := node(node(api.Tree{}, "", "", api.Tree{}), "a", "", node(api.Tree{}, "b", strings.Repeat("x", 1024), api.Tree{}))
	for key, want := range map[string]int{"": 0, "a": 0, "b": 1024} {
		if value, is, err := check.Bytes(32, digestOf(32, p), []byte(key), p); len(value) != want || !is || err != nil {
			t.Errorf("Bytes for %q = %q, %v, %v", key, value, is, err)
		}
	}
	if value, is, err := check.Bytes(32, digestOf(32, p), nil, p); len(value) != 0 || !is || err != nil {
		t.Errorf("Bytes for no key = %q, %v, %v", value, is, err)
	}
}

func TestBytesReturnsTheErrorOfCheck(t *testing.T) {
	for bits := range 1 << len(flaws) {
		c := withFlaws(bits)
		for _, key := range []string{"", "d", "f", "x"} {
			_, want := check.Check(c.w, c.root, scan.Point([]byte(key)), c.p)
			value, is, err := check.Bytes(c.w, c.root, []byte(key), c.p)
			if err != want || err != nil && (value != nil || is) {
				t.Errorf("with the flaws %08b, Bytes for %q = %q, %v, %v, want %v", bits, key, value, is, err, want)
			}
		}
	}
}

// P8.3

func roomyBytes(b []byte) []byte {
	return slices.Concat(b, bytes.Repeat([]byte{0xee}, 50))[:len(b)]
}

// roomy returns a tree whose byte strings and Kids lie within longer arrays: a
// function that appends to one of them would write into what stands behind it.
func roomy(p api.Tree) api.Tree {
	p.Key, p.Value, p.Digest = roomyBytes(p.Key), roomyBytes(p.Value), roomyBytes(p.Digest)
	kids := append(slices.Clone(p.Kids), node(api.Tree{}, "y", "z", api.Tree{}))
	p.Kids = kids[:len(p.Kids)]
	for i := range p.Kids {
		p.Kids[i] = roomy(p.Kids[i])
	}
	return p
}

// memory is all memory of the arguments' bytes, what stands behind them among it.
func (c call) memory() [][]byte {
	out := [][]byte{c.root, c.s.From, c.s.To}
	var collect func(api.Tree)
	collect = func(p api.Tree) {
		out = append(out, p.Key, p.Value, p.Digest)
		for _, kid := range p.Kids[:cap(p.Kids)] {
			collect(kid)
		}
	}
	collect(c.p)
	for i, b := range out {
		out[i] = b[:cap(b)]
	}
	return out
}

// whole tells all that the arguments' memory holds.
func (c call) whole() string {
	var shape func(api.Tree) string
	shape = func(p api.Tree) string {
		out := fmt.Sprint(p.Kind, len(p.Key), len(p.Value), len(p.Digest), len(p.Kids))
		for _, kid := range p.Kids[:cap(p.Kids)] {
			out += "(" + shape(kid) + ")"
		}
		return out
	}
	return fmt.Sprintf("%x %s", c.memory(), shape(c.p))
}

func flip(b []byte) {
	b = b[:cap(b)]
	for i := range b {
		b[i] = ^b[i]
	}
}

// roomyCalls are arguments of all kinds, each with memory of its own.
func roomyCalls() []call {
	var out []call
	add := func(c call) {
		c.root, c.s.From, c.s.To, c.p = roomyBytes(c.root), roomyBytes(c.s.From), roomyBytes(c.s.To), roomy(c.p)
		out = append(out, c)
	}
	for bits := range 1 << 8 {
		add(withFlaws(bits))
	}
	drawings := []string{".", "<x>", "(.b.)", "[.b.]", "(<x>b<y>)", "((.a.)b(.c.))", "[<x>a((.b.)c[.d<y>])]", "(.(.a(.b(<x>b\x00.))))"}
	for _, drawing := range drawings {
		for _, s := range []api.Span{{}, open(""), span("b", "b\x00"), span("a\x00", "d"), span("b", "a"), open("b")} {
			for _, w := range []int{1, 32} {
				p := built(w, drawing)
				add(call{w, digestOf(w, p), s, p})
			}
		}
	}
	return out
}

func TestArgumentsStay(t *testing.T) {
	for _, c := range roomyCalls() {
		before := c.whole()
		check.Check(c.w, c.root, c.s, c.p)
		check.Bytes(c.w, c.root, c.s.From, c.p)
		check.Bytes(c.w, c.root, c.s.To, c.p)
		if c.whole() != before {
			t.Errorf("Check(%d, %x), %s, or Bytes modified its arguments", c.w, c.root, spell(c.s))
		}
	}
}

// answers are what both functions return for the arguments: pairs, and the
// value of From under no key.
func (c call) answers() []api.Pair {
	pairs, _ := check.Check(c.w, c.root, c.s, c.p)
	value, _, _ := check.Bytes(c.w, c.root, c.s.From, c.p)
	return append(pairs, api.Pair{Value: value})
}

func clonedPairs(pairs []api.Pair) []api.Pair {
	pairs = slices.Clone(pairs)
	for i, p := range pairs {
		pairs[i] = api.Pair{Key: bytes.Clone(p.Key), Value: bytes.Clone(p.Value)}
	}
	return pairs
}

func scrub(pairs []api.Pair) {
	for _, p := range pairs {
		flip(p.Key)
		flip(p.Value)
	}
	clear(pairs[:cap(pairs)])
}

// TestResultsAreFresh: what is done to one does not show in the arguments or in
// another one.
func TestResultsAreFresh(t *testing.T) {
	for _, c := range roomyCalls() {
		before := c.whole()
		first, second := c.answers(), c.answers()
		kept := clonedPairs(first)
		scrub(first)
		if c.whole() != before || !samePairs(second, kept) || !samePairs(c.answers(), kept) {
			t.Errorf("Check(%d, %x), %s: what was done to the result shows elsewhere", c.w, c.root, spell(c.s))
		}
	}
}

func TestResultsOutliveTheirArguments(t *testing.T) {
	for _, c := range roomyCalls() {
		got := c.answers()
		kept := clonedPairs(got)
		for _, b := range c.memory() {
			flip(b)
		}
		if !samePairs(got, kept) {
			t.Errorf("Check(%d), %s: what was done to the arguments shows in the result", c.w, spell(c.s))
		}
	}
}

// TestPairsAreApart: no two byte strings of a result share memory.
func TestPairsAreApart(t *testing.T) {
	for _, c := range roomyCalls() {
		got := c.answers()
		for i := range got {
			for _, field := range []*[]byte{&got[i].Key, &got[i].Value} {
				old := *field
				*field = nil
				others := clonedPairs(got)
				flip(old)
				if !samePairs(got, others) {
					t.Errorf("Check(%d), %s: two byte strings of the result share memory", c.w, spell(c.s))
				}
				flip(old)
				*field = old
			}
		}
	}
}

// TestNothingIsRetained changes arguments after they were seen.
func TestNothingIsRetained(t *testing.T) {
	p := built(32, "[<x>b(.d[.f<y>])]")
	root, s := digestOf(32, p), span("c", "e")
	mustTellNow := func(want string) {
		t.Helper()
		if got := told(mustAgree(t, 32, root, s, p)); got != want {
			t.Errorf("told %s, want %s", got, want)
		}
	}
	mustTellNow(`["d"]`)
	s.To[0] = 'g'
	mustTellNow("ErrOpen")
	s.To[0] = 'f'
	mustTellNow(`["d"]`)
	s.From[0] = 'b'
	mustTellNow("ErrOpen")
	s.From[0] = 'e'
	mustTellNow("[]")
	root[31]++
	mustTellNow("ErrRoot")
	root[31]--
	mustTellNow("[]")
	p.Kids[0].Digest[0]++
	mustTellNow("ErrRoot")
	copy(root, digestOf(32, p))
	mustTellNow("[]")
	p.Key[0] = 'd'
	mustTellNow("ErrRoot")
	copy(root, digestOf(32, p))
	mustTellNow("ErrOrder")
	p.Kids[1].Key[0], p.Kids[1].Value[1] = 'e', 'e'
	copy(root, digestOf(32, p))
	mustTellNow(`["e"]`)
	p.Kids[1].Kids[1] = api.Tree{}
	copy(root, digestOf(32, p))
	s.Open = true
	mustTellNow(`["e"]`)
}

// P8.4

// put makes a balanced tree of keys, each with the value v followed by the key.
func put(t testing.TB, keys ...string) api.Tree {
	t.Helper()
	var x api.Tree
	for _, key := range keys {
		var err error
		if x, err = avl.Put(x, []byte(key), []byte("v"+key)); err != nil {
			t.Fatal(err)
		}
	}
	return x
}

// mustVerify proves a range of x, and wants what x has there to be told.
func mustVerify(t testing.TB, w int, x api.Tree, s api.Span) (root []byte, p api.Tree) {
	t.Helper()
	root, err := tree.Digest(w, x)
	if err != nil {
		t.Fatal(err)
	}
	p, err = proof.Prove(w, x, s)
	if err != nil {
		t.Fatal(err)
	}
	want, err := scan.Range(x, s)
	if err != nil {
		t.Fatal(err)
	}
	if got, err := mustAgree(t, w, root, s, p); err != nil || !samePairs(got, want) {
		t.Errorf("Check(%d) of a proof, %s = %q, %v, want %q", w, spell(s), got, err, want)
	}
	return root, p
}

// mustVerifyKey proves a key of x, and wants what x has there to be told.
func mustVerifyKey(t testing.TB, w int, x api.Tree, key string) {
	t.Helper()
	root, p := mustVerify(t, w, x, scan.Point([]byte(key)))
	want, wantIs, err := avl.Get(x, []byte(key))
	if len(key) <= api.MaxKey && err != nil {
		t.Fatal(err)
	}
	if value, is, err := check.Bytes(w, root, []byte(key), p); is != wantIs || !bytes.Equal(value, want) || err != nil {
		t.Errorf("Bytes(%d) of a proof for %.40q = %q, %v, %v, want %q, %v", w, key, value, is, err, want, wantIs)
	}
}

// within reports whether all keys of a are keys of b.
func within(a, b api.Span) bool {
	isEmpty := !a.Open && string(a.From) >= string(a.To)
	return isEmpty || string(b.From) <= string(a.From) && (b.Open || !a.Open && string(a.To) <= string(b.To))
}

// mustTellTheTruth wants a partial tree of x to tell what x has in a range, or
// ErrOpen.
func mustTellTheTruth(t testing.TB, x api.Tree, root []byte, s api.Span, p api.Tree) error {
	t.Helper()
	got, err := mustAgree(t, 32, root, s, p)
	want, _ := scan.Range(x, s)
	if err != nil && err != api.ErrOpen || err == nil && !samePairs(got, want) {
		t.Errorf("Check of %+v, %s = %q, %v, the tree has %q", p, spell(s), got, err, want)
	}
	return err
}

// balanced are the balanced trees with those keys, of all shapes.
func balanced(keys string) []api.Tree {
	if keys == "" {
		return []api.Tree{{}}
	}
	var out []api.Tree
	for i := range len(keys) {
		for _, l := range balanced(keys[:i]) {
			for _, r := range balanced(keys[i+1:]) {
				if x := node(l, keys[i:i+1], "v"+keys[i:i+1], r); avl.Is(x) {
					out = append(out, x)
				}
			}
		}
	}
	return out
}

// letters are every other one, so that there are keys between them.
const letters = "bdfhjlnprt"

// endsOf are keys and the gaps around them.
func endsOf(keys string) []string {
	ends := []string{"", "a"}
	for _, c := range keys {
		ends = append(ends, string(c), string(c)+"\x00", string(c+1))
	}
	return ends
}

// TestProofsOfSmallTrees: also of their other ranges, within those that were
// proved and beyond.
func TestProofsOfSmallTrees(t *testing.T) {
	for n := range 4 {
		spans := spansOf(endsOf(letters[:n])...)
		for _, x := range balanced(letters[:n]) {
			for _, s := range spans {
				root, p := mustVerify(t, 32, x, s)
				for _, other := range spans {
					if err := mustTellTheTruth(t, x, root, other, p); err != nil && within(other, s) {
						t.Errorf("a proof %s, %s: %v", spell(s), spell(other), err)
					}
				}
			}
		}
	}
}

func TestProofsOfAllShapes(t *testing.T) {
	count := 0
	for n := range 8 {
		ends := endsOf(letters[:n])
		for _, x := range balanced(letters[:n]) {
			for _, s := range spansOf(ends...) {
				mustVerify(t, 1+count%32, x, s)
				count++
			}
			for _, key := range ends {
				mustVerifyKey(t, 1+count%32, x, key)
				count++
			}
		}
	}
}

// TestLargerRangesAreOpen: what a proof does not show is asked for.
func TestLargerRangesAreOpen(t *testing.T) {
	x := put(t, "h", "d", "l", "b", "f", "j", "n")
	root, p := mustVerify(t, 32, x, span("f", "j"))
	for _, c := range []claim{
		{span("f", "j"), `["f" "h"]`},
		{span("f", "h"), `["f"]`},
		{span("g", "i"), `["h"]`},
		{span("h", "j"), `["h"]`},
		{span("i", "i\x00"), "[]"},
		{span("d\x00", "j"), `["f" "h"]`},
		{span("d", "j"), "ErrOpen"},
		{span("f", "j\x00"), "ErrOpen"},
		{span("c", "d"), "ErrOpen"},
		{span("a", "z"), "ErrOpen"},
		{span("j\x00", "l"), "[]"},
		{span("l\x00", "m"), "ErrOpen"},
		{open("f"), "ErrOpen"},
		{open(""), "ErrOpen"},
		{span("b", "b\x00"), "ErrOpen"},
	} {
		if got := told(mustAgree(t, 32, root, c.s, p)); got != c.want {
			t.Errorf("%s: %s, want %s", spell(c.s), got, c.want)
		}
	}
}

// replacements are all partial trees of x: each node may be shown, dark or cut,
// and an empty tree may be cut as well.
func replacements(x api.Tree) []api.Tree {
	out := []api.Tree{cut(digestOf(32, x))}
	if x.Kind == api.TreeNone {
		return append(out, x)
	}
	for _, l := range replacements(x.Kids[0]) {
		for _, r := range replacements(x.Kids[1]) {
			out = append(out, node(l, string(x.Key), string(x.Value), r), dark(l, string(x.Key), valueSum(32, string(x.Value)), r))
		}
	}
	return out
}

// TestWhateverIsReplaced: whoever knows the tree and leaves out anything of it
// can tell nothing but the truth.
func TestWhateverIsReplaced(t *testing.T) {
	for _, n := range []int{1, 2, 3} {
		for _, x := range balanced(letters[:n]) {
			for _, p := range replacements(x) {
				for _, s := range spansOf(endsOf(letters[:n])...) {
					mustTellTheTruth(t, x, digestOf(32, x), s, p)
				}
			}
		}
	}
}

// TestAlteredProofs changes each byte of a proof, and drops or adds a part.
func TestAlteredProofs(t *testing.T) {
	x := put(t, "h", "d", "l", "b", "f", "j", "n")
	s := span("f", "j")
	root, p := mustVerify(t, 32, x, s)
	mustRefuseIt := func(what string) {
		t.Helper()
		if got := told(mustAgree(t, 32, root, s, p)); got != "ErrRoot" {
			t.Errorf("%s: %s", what, got)
		}
	}
	var alter func(*api.Tree)
	alter = func(part *api.Tree) {
		for _, b := range [][]byte{part.Key, part.Value, part.Digest} {
			for i := range b {
				b[i] ^= 0x10
				mustRefuseIt("a byte changed")
				b[i] ^= 0x10
			}
		}
		old := *part
		for what, other := range map[string]api.Tree{
			"a part dropped":   {},
			"a part cut":       cut(sum(32)),
			"a node put in":    node(*part, "g", "vg", api.Tree{}),
			"a dark put in":    dark(api.Tree{}, "g", sum(32), *part),
			"a cut of no tree": cut(digestOf(32, api.Tree{})),
		} {
			if !bytes.Equal(digestOf(32, other), digestOf(32, old)) {
				*part = other
				mustRefuseIt(what)
			}
		}
		*part = old
		for i := range part.Kids {
			alter(&part.Kids[i])
		}
	}
	alter(&p)
	if got := told(mustAgree(t, 32, root, s, p)); got != `["f" "h"]` {
		t.Errorf("the proof itself: %s", got)
	}
}

// oddKeys are keys that are easily taken for each other.
func oddKeys() []string {
	long := strings.Repeat("ab", 40)
	return []string{"", "\x00", "\x00\x00", "\x00a", "a", "a\x00", "a\xff", "aa", "aaa", "\x7f", "\x80", "\xff", "\xff\x00", "\xff\xff",
		long[:79], long[:79] + "\x00", long, long[:79] + "\xff", strings.Repeat("\x00", 80), strings.Repeat("\xff", 80)}
}

func TestProofsOfOddKeys(t *testing.T) {
	keys := oddKeys()
	slices.Sort(keys)
	ends := append(slices.Clone(keys), "\x01", "b", "\x00\x00\x00", "\xff\xff\xff", strings.Repeat("\xff", 81), strings.Repeat("b", 2000))
	var half []string
	for i := 1; i < len(keys); i += 2 {
		half = append(half, keys[i])
	}
	for _, x := range []api.Tree{put(t, keys...), put(t, half...)} {
		for i, s := range spansOf(ends...) {
			mustVerify(t, 1+i%32, x, s)
		}
		for i, key := range ends {
			mustVerifyKey(t, 1+i%32, x, key)
		}
	}
}

func TestProofsOfManyPairs(t *testing.T) {
	r := rand.New(rand.NewSource(1))
	var keys []string
	for _, i := range r.Perm(500) {
		keys = append(keys, fmt.Sprintf("%04d", 2*i))
	}
	x := put(t, keys...)
	drawn := func() string { return fmt.Sprintf("%04d", r.Intn(1010)) }
	for range 30 {
		mustVerify(t, 32, x, span(drawn(), drawn()))
		mustVerify(t, 32, x, open(drawn()))
		mustVerifyKey(t, 32, x, drawn())
	}
}

// Both calls, on anything.

// treeOf makes a partial tree of any bytes, mostly one that is well-formed and
// whose keys ascend.
func treeOf(w int, b []byte) api.Tree {
	next := func() byte {
		if len(b) == 0 {
			return 0
		}
		c := b[0]
		b = b[1:]
		return c
	}
	count := 0
	var part func(depth int) api.Tree
	part = func(depth int) api.Tree {
		c := next()
		if c%8 == 1 || depth == 6 {
			return cut(sum(w, []byte{c}))
		}
		if c%8 == 0 {
			return api.Tree{}
		}
		left := part(depth + 1)
		count += int(c >> 4)
		key := string([]byte{byte(count / 4), byte(count % 4)}[:1+c>>4%2])
		right := part(depth + 1)
		switch {
		case c == 0xfa:
			return api.Tree{Kind: api.TreeNode, Key: []byte(key), Kids: []api.Tree{left}}
		case c%8 < 5:
			return node(left, key, "v"+key, right)
		}
		return dark(left, key, valueSum(w, "v"+key), right)
	}
	return part(0)
}

// mustAgreeOn holds both calls against the document's words for the tree of
// those bytes, under another root and under its own one.
func mustAgreeOn(t testing.TB, w int, b []byte, s api.Span) error {
	t.Helper()
	p := treeOf(min(max(w, 1), 32), b)
	root, err := tree.Digest(w, p)
	if err != nil {
		root = make([]byte, min(max(w, 0), 40))
	}
	other := slices.Clone(root)
	if len(root) > 0 {
		other[len(b)%len(root)]++
	}
	mustAgree(t, w, other, s, p)
	_, err = mustAgree(t, w, root, s, p)
	return err
}

func TestBothCallsOnAnything(t *testing.T) {
	r := rand.New(rand.NewSource(7))
	some := func(most, letters int) []byte {
		out := make([]byte, r.Intn(most+1))
		for i := range out {
			out[i] = byte(r.Intn(letters))
		}
		return out
	}
	seen := map[string]int{}
	for range 6000 {
		s := api.Span{From: some(2, 8), To: some(2, 8), Open: r.Intn(3) == 0}
		err := mustAgreeOn(t, 1+r.Intn(32), some(20, 256), s)
		seen[told(nil, err)]++
	}
	for _, want := range []string{"[]", "ErrForm", "ErrOrder", "ErrOpen"} {
		if seen[want] < 50 {
			t.Errorf("the trees are too much alike: %v", seen)
		}
	}
}

func FuzzBothCalls(f *testing.F) {
	f.Add(32, []byte("\x12\x22\x00\x01\x32"), []byte("\x01"), []byte("\x02"), false)
	f.Add(1, []byte{}, []byte{}, []byte{}, true)
	f.Add(0, []byte("\xfa\x12"), []byte("\xff"), []byte("\x00"), false)
	f.Add(33, []byte("\x16\x17\x11"), []byte("c"), []byte("e"), true)
	f.Fuzz(func(t *testing.T, w int, b, from, to []byte, isOpen bool) {
		mustAgreeOn(t, w, b, api.Span{From: from, To: to, Open: isOpen})
	})
}
