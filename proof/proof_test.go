package proof_test

import (
	"bytes"
	"crypto/sha256"
	"fmt"
	"math"
	"math/rand"
	"slices"
	"strings"
	"testing"

	"heartwood/api"
	"heartwood/avl"
	"heartwood/proof"
	"heartwood/scan"
	"heartwood/tree"
)

var none = api.Tree{}

// badWidths are those outside of 1 to 32, the ones next to it among them.
var badWidths = []int{0, -1, -2, -32, -33, math.MinInt, 33, 34, 64, 256 + 1, 1<<16 + 1, math.MaxInt}

func node(l api.Tree, key, value string, r api.Tree) api.Tree {
	return api.Tree{Kind: api.TreeNode, Key: []byte(key), Value: []byte(value), Kids: []api.Tree{l, r}}
}

func leaf(key string) api.Tree { return node(none, key, "v"+key, none) }

// span is the range from one key up to another.
func span(from, to string) api.Span { return api.Span{From: []byte(from), To: []byte(to)} }

// open is the range from a key on. It has an end too, which says nothing.
func open(from, to string) api.Span { return api.Span{From: []byte(from), To: []byte(to), Open: true} }

func spell(s api.Span) string {
	if s.Open {
		return fmt.Sprintf("from %.40q on (To %.40q)", s.From, s.To)
	}
	return fmt.Sprintf("from %.40q to %.40q", s.From, s.To)
}

// filled returns n bytes without a short period, so that a mixed-up order shows.
func filled(n int, seed uint32) []byte {
	out := make([]byte, n)
	x := seed*2654435761 + 1
	for i := range out {
		x = x*1664525 + 1013904223
		out[i] = byte(x >> 24)
	}
	return out
}

// same compares by what is said: nil and empty are one.
func same(a, b api.Tree) bool {
	return a.Kind == b.Kind && bytes.Equal(a.Key, b.Key) && bytes.Equal(a.Value, b.Value) &&
		bytes.Equal(a.Digest, b.Digest) && slices.EqualFunc(a.Kids, b.Kids, same)
}

func samePairs(a, b []api.Pair) bool {
	return slices.EqualFunc(a, b, func(p, q api.Pair) bool {
		return bytes.Equal(p.Key, q.Key) && bytes.Equal(p.Value, q.Value)
	})
}

func cloned(t api.Tree) api.Tree {
	t.Key, t.Value, t.Digest = bytes.Clone(t.Key), bytes.Clone(t.Value), bytes.Clone(t.Digest)
	t.Kids = slices.Clone(t.Kids)
	for i := range t.Kids {
		t.Kids[i] = cloned(t.Kids[i])
	}
	return t
}

// sum, valueSum and spelledDigest are layers 3 and 4 by the document's words.
func sum(w int, pieces ...[]byte) []byte {
	d := sha256.Sum256(slices.Concat(pieces...))
	return d[:w]
}

func valueSum(w int, value []byte) []byte { return sum(w, []byte{0}, value) }

func spelledDigest(w int, t api.Tree) []byte {
	switch t.Kind {
	case 0:
		return sum(w, []byte{3})
	case 3:
		return t.Digest
	}
	value := t.Digest
	if t.Kind == 1 {
		value = valueSum(w, t.Value)
	}
	pair := sum(w, []byte{1, byte(len(t.Key))}, t.Key, value)
	return sum(w, []byte{2}, spelledDigest(w, t.Kids[0]), pair, spelledDigest(w, t.Kids[1]))
}

// spelledIn is layer 6 by the document's words.
func spelledIn(s api.Span, key []byte) bool {
	return string(s.From) <= string(key) && (s.Open || string(key) < string(s.To))
}

// spelledProof is the proof of a balanced tree by the document's words.
func spelledProof(w int, t api.Tree, s api.Span) api.Tree {
	if t.Kind == 0 {
		return none
	}
	cut := func(sub api.Tree) api.Tree {
		if sub.Kind == 0 {
			return none
		}
		return api.Tree{Kind: 3, Digest: spelledDigest(w, sub)}
	}
	left, right := t.Kids[0], t.Kids[1]
	if spelledIn(s, t.Key) {
		return api.Tree{Kind: 1, Key: t.Key, Value: t.Value, Kids: []api.Tree{spelledProof(w, left, s), spelledProof(w, right, s)}}
	}
	dark := api.Tree{Kind: 2, Key: t.Key, Digest: valueSum(w, t.Value)}
	if string(t.Key) < string(s.From) {
		dark.Kids = []api.Tree{cut(left), spelledProof(w, right, s)}
	} else {
		dark.Kids = []api.Tree{spelledProof(w, left, s), cut(right)}
	}
	return dark
}

// drawn draws a proof of x: a node is (left key right), a dark node
// [left key right], a cut the keys of the subtree of x with that digest in
// angles, and the empty tree a dot. What is not as it should be has a mark.
func drawn(w int, x, p api.Tree) string {
	values, subtrees := map[string][]byte{}, map[string]string{}
	for _, n := range tree.List(x) {
		keys := ""
		for _, sub := range tree.List(n) {
			keys += string(sub.Key)
		}
		values[string(n.Key)], subtrees[string(spelledDigest(w, n))] = n.Value, keys
	}
	var draw func(api.Tree) string
	draw = func(p api.Tree) string {
		switch {
		case same(p, none):
			return "."
		case p.Kind == api.TreeCut && len(p.Key)+len(p.Value)+len(p.Kids) == 0:
			return "<" + subtrees[string(p.Digest)] + ">"
		case p.Kind == api.TreeNode && len(p.Kids) == 2 && len(p.Digest) == 0 && bytes.Equal(p.Value, values[string(p.Key)]):
			return "(" + draw(p.Kids[0]) + string(p.Key) + draw(p.Kids[1]) + ")"
		case p.Kind == api.TreeDark && len(p.Kids) == 2 && len(p.Value) == 0 && bytes.Equal(p.Digest, valueSum(w, values[string(p.Key)])):
			return "[" + draw(p.Kids[0]) + string(p.Key) + draw(p.Kids[1]) + "]"
		}
		return "!"
	}
	return draw(p)
}

func prove(t testing.TB, w int, x api.Tree, s api.Span) api.Tree {
	t.Helper()
	p, err := proof.Prove(w, x, s)
	if err != nil {
		t.Fatalf("Prove(%d), %s: %v", w, spell(s), err)
	}
	return p
}

// mustProve holds the proof of a balanced tree against the definition, and
// against the properties of P7.3.
func mustProve(t testing.TB, w int, x api.Tree, s api.Span) api.Tree {
	t.Helper()
	p := prove(t, w, x, s)
	if want := spelledProof(w, x, s); !same(p, want) {
		t.Errorf("Prove(%d), %s = %+v, want %+v", w, spell(s), p, want)
	}
	mustHaveTheDigest(t, w, x, s, p)
	mustShowThePairs(t, w, x, s, p)
	return p
}

func mustHaveTheDigest(t testing.TB, w int, x api.Tree, s api.Span, p api.Tree) {
	t.Helper()
	want, err := tree.Digest(w, x)
	if err != nil {
		t.Fatal(err)
	}
	if got, err := tree.Digest(w, p); err != nil || !bytes.Equal(got, want) {
		t.Errorf("Prove(%d), %s: the digest of the proof is %x, %v, that of the tree %x", w, spell(s), got, err, want)
	}
}

func mustShowThePairs(t testing.TB, w int, x api.Tree, s api.Span, p api.Tree) {
	t.Helper()
	want, err := scan.Range(x, s)
	if err != nil {
		t.Fatal(err)
	}
	var got []api.Pair
	for _, n := range tree.List(p) {
		if n.Kind == api.TreeNode {
			got = append(got, api.Pair{Key: n.Key, Value: n.Value})
		}
	}
	if !samePairs(got, want) {
		t.Errorf("Prove(%d), %s: the proof shows %q, the tree has %q", w, spell(s), got, want)
	}
}

// mustRefuse wants the error itself, a plain Code, and no tree beside it.
func mustRefuse(t testing.TB, what string, w int, x api.Tree, s api.Span, want error) {
	t.Helper()
	got, err := proof.Prove(w, x, s)
	isZero := got.Kind == 0 && got.Key == nil && got.Value == nil && got.Digest == nil && got.Kids == nil
	if err != want || !isZero {
		t.Errorf("Prove(%d) of %s, %s = %+v, %v, want %v", w, what, spell(s), got, err, want)
	}
}

// put makes a balanced tree of keys, each with the value v followed by the key.
func put(t testing.TB, keys ...string) api.Tree {
	t.Helper()
	x := none
	for _, key := range keys {
		var err error
		if x, err = avl.Put(x, []byte(key), []byte("v"+key)); err != nil {
			t.Fatal(err)
		}
	}
	return x
}

// shapes are the trees of all shapes with those keys, balanced or not.
func shapes(keys string) []api.Tree {
	if keys == "" {
		return []api.Tree{none}
	}
	var out []api.Tree
	for i := range len(keys) {
		for _, l := range shapes(keys[:i]) {
			for _, r := range shapes(keys[i+1:]) {
				out = append(out, node(l, keys[i:i+1], "v"+keys[i:i+1], r))
			}
		}
	}
	return out
}

// letters are every other one, so that there are keys between them.
const letters = "bdfhjlnprt"

// spansOf are the ranges with all those ends, whichever is the lesser one, and
// those that are open.
func spansOf(ends ...string) []api.Span {
	var out []api.Span
	for _, from := range ends {
		for _, to := range ends {
			out = append(out, span(from, to), open(from, to))
		}
	}
	return out
}

// oddKeys are keys that are easily taken for each other.
func oddKeys() []string {
	long := string(filled(79, 1))
	return []string{"", "\x00", "\x00\x00", "\x00a", "a", "a\x00", "a\xff", "aa", "aaa", "\x7f", "\x80", "\xff", "\xff\x00", "\xff\xff",
		long, long + "\x00", long + "\x01", long + "\xff", strings.Repeat("\x00", 80), strings.Repeat("\xff", 80)}
}

// P7.1

func TestExamples(t *testing.T) {
	for _, s := range spansOf("", "a", "b") {
		if p := mustProve(t, 1, none, s); !same(p, none) {
			t.Errorf("Prove of the empty tree, %s = %+v", spell(s), p)
		}
	}
	a, c := leaf("a"), leaf("c")
	p := prove(t, 1, node(a, "b", "vb", c), scan.Point([]byte("a")))
	cut := api.Tree{Kind: api.TreeCut, Digest: spelledDigest(1, c)}
	want := api.Tree{Kind: api.TreeDark, Key: []byte("b"), Digest: valueSum(1, []byte("vb")), Kids: []api.Tree{a, cut}}
	if !same(p, want) {
		t.Errorf("Prove = %+v, want %+v", p, want)
	}
}

// drawing is a range and what its proof looks like.
type drawing struct {
	s    api.Span
	want string
}

func mustDraw(t *testing.T, x api.Tree, drawings []drawing) {
	t.Helper()
	for _, d := range drawings {
		for _, w := range []int{4, 31, 32} {
			if got := drawn(w, x, mustProve(t, w, x, d.s)); got != d.want {
				t.Errorf("Prove(%d), %s = %s, want %s", w, spell(d.s), got, d.want)
			}
		}
	}
}

func TestProofsOfOneNode(t *testing.T) {
	mustDraw(t, leaf("b"), []drawing{
		{span("b", "c"), "(.b.)"},
		{span("b", "b\x00"), "(.b.)"},
		{span("a", "b\x00"), "(.b.)"},
		{span("", "\xff"), "(.b.)"},
		{span("a", "b"), "[.b.]"},
		{span("b\x00", "c"), "[.b.]"},
		{span("c", "d"), "[.b.]"},
		{span("", "a"), "[.b.]"},
		{span("b", "b"), "[.b.]"},
		{span("c", "a"), "[.b.]"},
		{span("c", "b"), "[.b.]"},
		{span("b", "a"), "[.b.]"},
		{span("b", ""), "[.b.]"},
		{span("", ""), "[.b.]"},
		{open("", ""), "(.b.)"},
		{open("b", ""), "(.b.)"},
		{open("b", "a"), "(.b.)"},
		{open("a", "a"), "(.b.)"},
		{open("b\x00", ""), "[.b.]"},
		{open("c", "d"), "[.b.]"},
	})
}

// TestProofsOfTwoNodes: a node with one Kid, on either side.
func TestProofsOfTwoNodes(t *testing.T) {
	mustDraw(t, node(leaf("b"), "d", "vd", none), []drawing{
		{span("d", "e"), "([.b.]d.)"},
		{span("b", "c"), "[(.b.)d.]"},
		{span("b", "d"), "[(.b.)d.]"},
		{span("b", "e"), "((.b.)d.)"},
		{span("c", "d"), "[[.b.]d.]"},
		{span("a", "b"), "[[.b.]d.]"},
		{span("e", "f"), "[<b>d.]"},
		{span("e", "a"), "[<b>d.]"},
		{span("c", "a"), "[[.b.]d.]"},
		{open("e", ""), "[<b>d.]"},
		{open("c", ""), "([.b.]d.)"},
	})
	mustDraw(t, node(none, "b", "vb", leaf("d")), []drawing{
		{span("b", "c"), "(.b[.d.])"},
		{span("d", "e"), "[.b(.d.)]"},
		{span("b\x00", "e"), "[.b(.d.)]"},
		{span("b", "e"), "(.b(.d.))"},
		{span("c", "d"), "[.b[.d.]]"},
		{span("e", "f"), "[.b[.d.]]"},
		{span("a", "b"), "[.b<d>]"},
		{span("b", "a"), "[.b<d>]"},
		{span("c", "a"), "[.b[.d.]]"},
		{span("e", "a"), "[.b[.d.]]"},
		{span("", ""), "[.b<d>]"},
		{open("d", ""), "[.b(.d.)]"},
		{open("e", ""), "[.b[.d.]]"},
	})
}

func TestProofsOfSevenNodes(t *testing.T) {
	x := put(t, "h", "d", "l", "b", "f", "j", "n")
	mustDraw(t, x, []drawing{
		// All pairs.
		{open("", ""), "(((.b.)d(.f.))h((.j.)l(.n.)))"},
		{open("b", "b"), "(((.b.)d(.f.))h((.j.)l(.n.)))"},
		{open("", "a"), "(((.b.)d(.f.))h((.j.)l(.n.)))"},
		{span("", "\xff"), "(((.b.)d(.f.))h((.j.)l(.n.)))"},
		{span("b", "n\x00"), "(((.b.)d(.f.))h((.j.)l(.n.)))"},
		// One pair: at the root, at an end, within.
		{span("h", "h\x00"), "([<b>d[.f.]]h[[.j.]l<n>])"},
		{span("g", "i"), "([<b>d[.f.]]h[[.j.]l<n>])"},
		{span("b", "c"), "[[(.b.)d<f>]h<jln>]"},
		{span("", "d"), "[[(.b.)d<f>]h<jln>]"},
		{span("d", "f"), "[([.b.]d[.f.])h<jln>]"},
		{span("f", "h"), "[[<b>d(.f.)]h<jln>]"},
		{span("j", "l"), "[<bdf>h[(.j.)l<n>]]"},
		{span("n", "z"), "[<bdf>h[<j>l(.n.)]]"},
		{open("n", "a"), "[<bdf>h[<j>l(.n.)]]"},
		// Some pairs.
		{span("f", "j"), "([<b>d(.f.)]h[[.j.]l<n>])"},
		{span("f", "j\x00"), "([<b>d(.f.)]h[(.j.)l<n>])"},
		{span("f\x00", "j"), "([<b>d[.f.]]h[[.j.]l<n>])"},
		{span("d", "l"), "(([.b.]d(.f.))h[(.j.)l<n>])"},
		{span("", "h"), "[((.b.)d(.f.))h<jln>]"},
		{open("h", ""), "([<b>d[.f.]]h((.j.)l(.n.)))"},
		{open("h\x00", ""), "[<bdf>h((.j.)l(.n.))]"},
		{open("j\x00", "k"), "[<bdf>h([.j.]l(.n.))]"},
		// No pair: before all of them, between two, after all of them.
		{span("", "b"), "[[[.b.]d<f>]h<jln>]"},
		{span("", "a"), "[[[.b.]d<f>]h<jln>]"},
		{span("b\x00", "d"), "[[[.b.]d<f>]h<jln>]"},
		{span("e", "f"), "[[<b>d[.f.]]h<jln>]"},
		{span("g", "h"), "[[<b>d[.f.]]h<jln>]"},
		{span("i", "j"), "[<bdf>h[[.j.]l<n>]]"},
		{span("m", "n"), "[<bdf>h[<j>l[.n.]]]"},
		{span("o", "z"), "[<bdf>h[<j>l[.n.]]]"},
		{open("n\x00", ""), "[<bdf>h[<j>l[.n.]]]"},
		{open("\xff", "b"), "[<bdf>h[<j>l[.n.]]]"},
	})
}

// TestProofsOfRangesWithoutKeys: the keys that are less than From are looked
// for first, also where they are not less than To either.
func TestProofsOfRangesWithoutKeys(t *testing.T) {
	x := put(t, "h", "d", "l", "b", "f", "j", "n")
	mustDraw(t, x, []drawing{
		{api.Span{}, "[[[.b.]d<f>]h<jln>]"},
		{span("b", "b"), "[[[.b.]d<f>]h<jln>]"},
		{span("d", "d"), "[[[.b.]d<f>]h<jln>]"},
		{span("e", "e"), "[[<b>d[.f.]]h<jln>]"},
		{span("h", "h"), "[[<b>d[.f.]]h<jln>]"},
		{span("i", "i"), "[<bdf>h[[.j.]l<n>]]"},
		{span("z", "z"), "[<bdf>h[<j>l[.n.]]]"},
		{span("i", "e"), "[<bdf>h[[.j.]l<n>]]"},
		{span("h", "d"), "[[<b>d[.f.]]h<jln>]"},
		{span("n", "b"), "[<bdf>h[<j>l[.n.]]]"},
		{span("l", "j"), "[<bdf>h[[.j.]l<n>]]"},
		{span("z", ""), "[<bdf>h[<j>l[.n.]]]"},
		{span("f", ""), "[[<b>d[.f.]]h<jln>]"},
		{span("\x00", ""), "[[[.b.]d<f>]h<jln>]"},
	})
}

// TestProofsWithTheEmptyKey: it is a key like any other.
func TestProofsWithTheEmptyKey(t *testing.T) {
	mustDraw(t, node(none, "", "", none), []drawing{
		{span("", "\x00"), "(..)"},
		{open("", ""), "(..)"},
		{span("", ""), "[..]"},
		{span("\x00", "a"), "[..]"},
		{span("a", ""), "[..]"},
		{open("\x00", ""), "[..]"},
	})
	mustDraw(t, node(node(none, "", "x", none), "a", "", leaf("c")), []drawing{
		{span("", "\x00"), "[(..)a<c>]"},
		{span("", "a"), "[(..)a<c>]"},
		{span("", "b"), "((..)a[.c.])"},
		{span("", ""), "[[..]a<c>]"},
		{span("\x00", "a"), "[[..]a<c>]"},
		{span("a", "b"), "([..]a[.c.])"},
		{span("a", ""), "[[..]a<c>]"},
		{span("b", ""), "[<>a[.c.]]"},
		{open("", ""), "((..)a(.c.))"},
		{open("\x00", ""), "([..]a(.c.))"},
		{open("c", ""), "[<>a(.c.)]"},
	})
	mustDraw(t, node(none, "", "", leaf("a")), []drawing{
		{span("", "\x00"), "(.[.a.])"},
		{span("", ""), "[.<a>]"},
		{span("a", "b"), "[.(.a.)]"},
		{open("\x00", ""), "[.(.a.)]"},
	})
}

// TestProofsOfSmallTrees: all shapes, balanced or not, and all ranges whose
// ends are a key or lie in a gap.
func TestProofsOfSmallTrees(t *testing.T) {
	count := 0
	for n := range 8 {
		ends := []string{"", "a"}
		for _, c := range letters[:n] {
			ends = append(ends, string(c), string(c)+"\x00", string(c+1))
		}
		spans := spansOf(ends...)
		for _, x := range shapes(letters[:n]) {
			if !avl.Is(x) {
				mustRefuse(t, "a tree that is not balanced", 1+count%32, x, span("", "z"), api.ErrForm)
				mustRefuse(t, "a tree that is not balanced", 1+count%32, x, span("a", "a"), api.ErrForm)
				count++
				continue
			}
			for _, s := range spans {
				mustProve(t, 1+count%32, x, s)
				count++
			}
		}
	}
}

func TestProofsOfAllWidths(t *testing.T) {
	x := put(t, oddKeys()...)
	for w := 1; w <= 32; w++ {
		for _, s := range spansOf("", "a", "\x80", strings.Repeat("\xff", 80)) {
			mustProve(t, w, none, s)
			mustProve(t, w, leaf("a"), s)
			mustProve(t, w, x, s)
		}
	}
}

func TestProofsOfOddKeys(t *testing.T) {
	keys := oddKeys()
	slices.Sort(keys)
	ends := append(slices.Clone(keys), "\x01", "b", "\x00\x00\x00", "\xff\xff\xff",
		strings.Repeat("\x00", 81), strings.Repeat("\xff", 81), string(filled(2000, 2)))
	var half []string
	for i := 1; i < len(keys); i += 2 {
		half = append(half, keys[i])
	}
	for _, x := range []api.Tree{put(t, keys...), put(t, half...)} {
		for _, s := range spansOf(ends...) {
			mustProve(t, 32, x, s)
		}
		for _, end := range ends {
			mustProve(t, 32, x, scan.Point([]byte(end)))
		}
	}
}

// TestProofsOfOddValues: a value is shown as it is, or by its digest, also
// where it is empty or as long as may be.
func TestProofsOfOddValues(t *testing.T) {
	x := none
	for key, value := range map[string][]byte{"": nil, "a": {}, "b": {0}, "c": filled(1024, 1), "d": []byte("b"), "e": {0xff}, "f": filled(32, 1)} {
		var err error
		if x, err = avl.Put(x, []byte(key), value); err != nil {
			t.Fatal(err)
		}
	}
	for _, w := range []int{1, 32} {
		for _, s := range spansOf("", "\x00", "a", "b", "c", "d", "e", "f", "g") {
			mustProve(t, w, x, s)
		}
	}
	long := node(none, string(filled(80, 1)), string(filled(1024, 2)), none)
	mustProve(t, 32, long, open("", ""))
	mustProve(t, 32, long, span("", ""))
}

// TestEmptyTreesAreSpelledInAnyWay: nothing is taken over from them.
func TestEmptyTreesAreSpelledInAnyWay(t *testing.T) {
	empty := api.Tree{Key: []byte{}, Value: []byte{}, Digest: []byte{}, Kids: []api.Tree{}}
	x := node(node(empty, "b", "", empty), "d", "", node(empty, "f", "", none))
	for _, s := range spansOf("", "a", "b", "d", "f", "g") {
		mustProve(t, 32, empty, s)
		mustProve(t, 32, x, s)
	}
}

func TestProofsOfManyPairs(t *testing.T) {
	r := rand.New(rand.NewSource(1))
	var keys []string
	for _, i := range r.Perm(600) {
		keys = append(keys, fmt.Sprintf("%04d", 2*i))
	}
	x := put(t, keys...)
	for range 60 {
		s := span(fmt.Sprintf("%04d", r.Intn(1210)), fmt.Sprintf("%04d", r.Intn(1210)))
		mustProve(t, 32, x, s)
		s.Open = true
		mustProve(t, 32, x, s)
		point := scan.Point([]byte(fmt.Sprintf("%04d", r.Intn(1210))))
		if n := len(tree.List(mustProve(t, 32, x, point))); n > tree.Depth(x)+tree.Depth(x) {
			t.Errorf("the proof of %s has %d nodes", spell(point), n)
		}
	}
}

// endless is a tree that contains itself.
func endless() api.Tree {
	kids := make([]api.Tree, 2)
	kids[0] = api.Tree{Kind: api.TreeNode, Key: []byte("a"), Kids: kids}
	return kids[0]
}

// unbalanced are trees that are not full, not trees, not in order or uneven.
func unbalanced() map[string]api.Tree {
	cut := api.Tree{Kind: api.TreeCut, Digest: filled(32, 1)}
	dark := api.Tree{Kind: api.TreeDark, Key: []byte("c"), Digest: filled(32, 1), Kids: []api.Tree{none, none}}
	deep := none
	for i := range 65 {
		deep = node(none, string([]byte{byte(100 - i)}), "", deep)
	}
	return map[string]api.Tree{
		"a cut":                            cut,
		"a dark node":                      dark,
		"a cut aside":                      node(leaf("a"), "b", "", cut),
		"a dark node aside":                node(leaf("a"), "b", "", dark),
		"a cut without a Digest":           {Kind: api.TreeCut},
		"a kind -1":                        {Kind: -1},
		"a kind 4":                         {Kind: 4, Key: []byte("a"), Kids: []api.Tree{none, none}},
		"a none with a Key":                {Key: []byte("a")},
		"a none with a Value":              {Value: []byte("a")},
		"a none with Kids":                 {Kids: []api.Tree{none, none}},
		"a node without Kids":              {Kind: api.TreeNode, Key: []byte("a")},
		"a node with a Kid":                {Kind: api.TreeNode, Key: []byte("a"), Kids: []api.Tree{none}},
		"a node with three Kids":           {Kind: api.TreeNode, Key: []byte("a"), Kids: []api.Tree{none, none, none}},
		"a node with a Digest":             {Kind: api.TreeNode, Digest: filled(32, 1), Kids: []api.Tree{none, none}},
		"a key of 81 bytes":                node(none, string(filled(81, 1)), "", none),
		"a value of 1025 bytes":            node(none, "a", string(filled(1025, 1)), none),
		"keys that fall":                   node(leaf("b"), "a", "", none),
		"a key twice":                      node(leaf("a"), "a", "", none),
		"the empty key twice":              node(leaf(""), "", "", none),
		"a key that does not fit the root": node(node(none, "a", "", leaf("d")), "c", "", leaf("e")),
		"a way to the right":               node(none, "a", "", node(none, "b", "", leaf("c"))),
		"a way to the left":                node(node(leaf("a"), "b", "", none), "c", "", none),
		"a way aside":                      node(leaf("a"), "b", "", node(node(leaf("c"), "d", "", node(none, "e", "", leaf("f"))), "g", "", none)),
		"a tree of depth 65":               deep,
		"a tree that contains itself":      endless(),
	}
}

// TestTreesThatAreNotBalanced: also where what is amiss would be cut off, or
// the range holds no key.
func TestTreesThatAreNotBalanced(t *testing.T) {
	for what, x := range unbalanced() {
		for _, s := range spansOf("", "a", "a\x00", "b", "\xff") {
			mustRefuse(t, what, 1, x, s, api.ErrForm)
			mustRefuse(t, what, 32, x, s, api.ErrForm)
		}
	}
}

// TestOtherWidths: the width goes before whatever the tree and the range are.
func TestOtherWidths(t *testing.T) {
	trees := unbalanced()
	trees["the empty tree"] = none
	trees["a leaf"] = leaf("a")
	trees["seven nodes"] = put(t, "h", "d", "l", "b", "f", "j", "n")
	for what, x := range trees {
		for _, w := range badWidths {
			for _, s := range []api.Span{{}, open("", ""), span("a", "b"), span("b", "a"), span("a", "a")} {
				mustRefuse(t, what, w, x, s, api.ErrArg)
			}
		}
	}
}

// P7.2

func roomyBytes(b []byte) []byte {
	return slices.Concat(b, bytes.Repeat([]byte{0xee}, 100))[:len(b)]
}

func roomySpan(s api.Span) api.Span {
	s.From, s.To = roomyBytes(s.From), roomyBytes(s.To)
	return s
}

// roomy returns a tree whose byte strings and Kids lie within longer arrays: a
// function that appends to one of them would write into what stands behind it.
func roomy(t api.Tree) api.Tree {
	t.Key, t.Value, t.Digest = roomyBytes(t.Key), roomyBytes(t.Value), roomyBytes(t.Digest)
	kids := append(slices.Clone(t.Kids), leaf("y"), leaf("z"))
	t.Kids = kids[:len(t.Kids)]
	for i := range t.Kids {
		t.Kids[i] = roomy(t.Kids[i])
	}
	return t
}

// whole is all that the bytes' memory holds, what stands behind them among it.
func whole(b []byte) string { return string(b[:cap(b)]) }

func wholeSpan(s api.Span) string { return whole(s.From) + "|" + whole(s.To) }

func wholeTree(t api.Tree) string {
	out := fmt.Sprintf("%d %x %x %x %d(", t.Kind, whole(t.Key), whole(t.Value), whole(t.Digest), len(t.Kids))
	for _, kid := range t.Kids[:cap(t.Kids)] {
		out += wholeTree(kid) + ","
	}
	return out + ")"
}

// flip overwrites all of the bytes' memory, what stands behind them among it.
func flip(b []byte) {
	b = b[:cap(b)]
	for i := range b {
		b[i] = ^b[i]
	}
}

// scrub overwrites all of a tree's memory.
func scrub(t api.Tree) {
	for _, b := range [][]byte{t.Key, t.Value, t.Digest} {
		flip(b)
	}
	kids := t.Kids[:cap(t.Kids)]
	for i := range kids {
		scrub(kids[i])
		kids[i] = leaf("scrubbed")
	}
}

// fewSpans hold no pair, one, some and all of those of oddKeys.
func fewSpans() []api.Span {
	return []api.Span{span("b", "b"), span("a", "a\x00"), span("", "\x00"), span("a", "b"), span("b", "a"), span("", ""),
		span("", "\xff"), span("\xff\xff\xff", "\xff\xff"), open("", ""), open("a\xff", ""), open(strings.Repeat("\xff", 81), "")}
}

func TestArgumentsStay(t *testing.T) {
	trees := []api.Tree{none, leaf(""), leaf("a"), put(t, oddKeys()...), node(leaf("b"), "a", "", none),
		{Kind: api.TreeCut, Digest: filled(32, 1)}}
	for _, plain := range fewSpans() {
		for _, x := range trees {
			for _, w := range []int{0, 1, 32, 33} {
				s, y := roomySpan(plain), roomy(x)
				beforeSpan, beforeTree := wholeSpan(s), wholeTree(y)
				proof.Prove(w, y, s)
				if wholeSpan(s) != beforeSpan || wholeTree(y) != beforeTree {
					t.Errorf("Prove(%d), %s modified the tree or the range", w, spell(s))
				}
			}
		}
	}
}

// TestProofsAreFresh: what is done to one does not show in the tree, the range
// or another proof.
func TestProofsAreFresh(t *testing.T) {
	for _, plain := range fewSpans() {
		for _, w := range []int{1, 20, 32} {
			x, s := roomy(put(t, oddKeys()...)), roomySpan(plain)
			beforeTree, beforeSpan := wholeTree(x), wholeSpan(s)
			first, second := prove(t, w, x, s), prove(t, w, x, s)
			kept := cloned(first)
			scrub(first)
			if wholeTree(x) != beforeTree || wholeSpan(s) != beforeSpan {
				t.Errorf("Prove(%d), %s: what was done to the proof shows in the tree or the range", w, spell(plain))
			}
			if !same(second, kept) {
				t.Errorf("Prove(%d), %s: what was done to the proof shows in another one", w, spell(plain))
			}
			if again := mustProve(t, w, x, s); !same(again, kept) {
				t.Errorf("Prove(%d), %s: what was done to a proof shows in the next one", w, spell(plain))
			}
		}
	}
}

func TestProofsOutliveTheirArguments(t *testing.T) {
	for _, plain := range fewSpans() {
		for _, w := range []int{1, 20, 32} {
			x, s := roomy(put(t, oddKeys()...)), roomySpan(plain)
			p := mustProve(t, w, x, s)
			kept := cloned(p)
			scrub(x)
			flip(s.From)
			flip(s.To)
			if !same(p, kept) {
				t.Errorf("Prove(%d), %s: what was done to the tree or the range shows in the proof", w, spell(plain))
			}
		}
	}
}

// TestPartsAreApart: no two byte strings of one proof share memory, nor do two
// lists of Kids.
func TestPartsAreApart(t *testing.T) {
	for _, s := range fewSpans() {
		p := prove(t, 32, roomy(put(t, oddKeys()...)), s)
		kids := map[*api.Tree]bool{}
		var fields []*[]byte
		var collect func(*api.Tree)
		collect = func(part *api.Tree) {
			fields = append(fields, &part.Key, &part.Value, &part.Digest)
			all := part.Kids[:cap(part.Kids)]
			for i := range all {
				if kids[&all[i]] {
					t.Errorf("%s: the Kids of two nodes share memory", spell(s))
				}
				kids[&all[i]] = true
				collect(&all[i])
			}
		}
		collect(&p)
		for _, field := range fields {
			old := *field
			*field = nil
			before := wholeTree(p)
			flip(old)
			if wholeTree(p) != before {
				t.Errorf("%s: two byte strings of the proof share memory", spell(s))
			}
			*field = old
		}
	}
}

// TestNothingIsRetained changes arguments after they were seen.
func TestNothingIsRetained(t *testing.T) {
	x, s := put(t, "d", "b", "f"), span("b", "c")
	mustDrawNow := func(want string) {
		t.Helper()
		if got := drawn(32, x, mustProve(t, 32, x, s)); got != want {
			t.Errorf("the proof is %s, want %s", got, want)
		}
	}
	mustDrawNow("[(.b.)d<f>]")
	s.From[0] = 'c'
	mustDrawNow("[[.b.]d<f>]")
	s.To[0] = 'e'
	mustDrawNow("([.b.]d[.f.])")
	x.Key[0] = 'e'
	mustDrawNow("[[.b.]e<f>]")
	x.Value[1] = 'e'
	mustDrawNow("[[.b.]e<f>]")
	x.Kids[0].Key[0] = 'c'
	mustDrawNow("[(.c.)e<f>]")
	x.Kids[0].Value[0] = 'w'
	mustDrawNow("[(.c.)e<f>]")
	x.Kids[1].Value[0] = 'w'
	mustDrawNow("[(.c.)e<f>]")
	x.Kids[1].Key[0] = 'e'
	mustRefuse(t, "a key twice", 32, x, s, api.ErrForm)
	x.Kids[1] = none
	mustDrawNow("[(.c.)e.]")
}

// P7.3, by itself: mustProve has it for all proofs above.

// TestProofsTellTreesApart: trees that differ anywhere have proofs of different
// digests, also where what differs is not in the range.
func TestProofsTellTreesApart(t *testing.T) {
	trees := []api.Tree{none, leaf("a"), leaf("b"), node(none, "b", "w", none), node(leaf("a"), "b", "", none), node(none, "a", "", leaf("b")),
		node(leaf("a"), "b", "", leaf("c")), node(leaf("a"), "b", "w", leaf("c")), node(node(none, "a", "w", none), "b", "", leaf("c")),
		node(leaf("a"), "b", "", node(none, "c", "w", none)), node(leaf("a"), "b", "", leaf("d")), node(leaf("aa"), "b", "", leaf("c"))}
	for _, s := range spansOf("", "a", "b", "c", "d") {
		seen := map[string]int{}
		for i, x := range trees {
			d, err := tree.Digest(32, mustProve(t, 32, x, s))
			if err != nil {
				t.Fatal(err)
			}
			if j, ok := seen[string(d)]; ok {
				t.Errorf("%s: the proofs of the trees %d and %d have one digest", spell(s), i, j)
			}
			seen[string(d)] = i
		}
	}
}

// TestProofsHaveKnownDigests holds two digests, written out, that were made of
// the document's words by another program.
func TestProofsHaveKnownDigests(t *testing.T) {
	one := node(none, "a", "1", none)
	three := node(one, "b", "2", node(none, "c", "3", none))
	for _, s := range spansOf("", "a", "b", "c", "d") {
		for hex, x := range map[string]api.Tree{
			"839a57ace98e929adc9aefa5e94921c1e46142b5c769a7c126b9f6181ad658c6": one,
			"dc11255726548800b4ca49f3aa3fcb5e0710c57bd76ad67e894ec0102a52ae5c": three,
		} {
			d, err := tree.Digest(32, prove(t, 32, x, s))
			if got := fmt.Sprintf("%x", d); err != nil || got != hex {
				t.Errorf("%s: the digest of the proof is %s, %v, want %s", spell(s), got, err, hex)
			}
		}
	}
}

// All calls, on anything.

// treeOf makes a tree of any bytes, mostly one that is balanced.
func treeOf(b []byte) api.Tree {
	x := none
	for len(b) >= 3 {
		n := min(int(b[0]%4), len(b)-2)
		x, _ = avl.Put(x, b[1:1+n], b[1+n:2+n])
		b = b[2+n:]
	}
	at := x
	for _, c := range b {
		if len(at.Kids) != 2 {
			break
		}
		switch kid := &at.Kids[c%2]; c / 2 % 16 {
		case 0:
			kid.Kind = int(c / 32)
		case 1:
			kid.Key = append(kid.Key, c)
		case 2:
			*kid = none
		case 3:
			kid.Kids = append(kid.Kids, none)
		}
		at = at.Kids[c%2]
	}
	return x
}

// mustAgree holds Prove against the document's words.
func mustAgree(t testing.TB, w int, x api.Tree, s api.Span) {
	t.Helper()
	switch {
	case w < 1 || w > 32:
		mustRefuse(t, "a tree", w, x, s, api.ErrArg)
	case !avl.Is(x):
		mustRefuse(t, "a tree that is not balanced", w, x, s, api.ErrForm)
	default:
		mustProve(t, w, x, s)
	}
}

func TestProveOnAnything(t *testing.T) {
	r := rand.New(rand.NewSource(7))
	some := func(most int) string {
		out := make([]byte, r.Intn(most+1))
		for i := range out {
			out[i] = "\x00\x01a\xfe\xff"[r.Intn(5)]
		}
		return string(out)
	}
	for range 10000 {
		x := treeOf([]byte(some(60)))
		s := api.Span{From: []byte(some(4)), To: []byte(some(4)), Open: r.Intn(3) == 0}
		mustAgree(t, r.Intn(35)-1, x, s)
	}
}

func FuzzProve(f *testing.F) {
	f.Add(32, []byte("1a1b2ab3"), []byte("a"), []byte("b"), false)
	f.Add(1, []byte{}, []byte{}, []byte{}, true)
	f.Add(0, []byte("0\x001\xff1\x80"), []byte("\xff"), []byte("\x00"), false)
	f.Add(33, []byte("1b11d11f1"), []byte("c"), []byte("e"), true)
	f.Fuzz(func(t *testing.T, w int, b, from, to []byte, isOpen bool) {
		// Each insertion looks at the whole tree: a long input would only take long.
		mustAgree(t, w, treeOf(b[:min(len(b), 300)]), api.Span{From: from, To: to, Open: isOpen})
	})
}
