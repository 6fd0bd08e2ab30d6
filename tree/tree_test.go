package tree_test

import (
	"bytes"
	"crypto/sha256"
	"encoding/hex"
	"fmt"
	"math"
	"math/rand"
	"reflect"
	"slices"
	"testing"

	"heartwood/api"
	"heartwood/digest"
	"heartwood/tree"
)

// badWidths are those outside of 1 to 32, the ones next to it among them.
var badWidths = []int{0, -1, -2, -32, -33, math.MinInt, 33, 34, 64, 256 + 1, 1<<16 + 1, math.MaxInt}

// otherKinds are those outside of the four.
var otherKinds = []int{-1, -2, -3, math.MinInt, 4, 5, 255, 256, 256 + 1, 1<<32 + 1, math.MaxInt}

var none = api.Tree{}

func node(l api.Tree, key, value string, r api.Tree) api.Tree {
	return api.Tree{Kind: api.TreeNode, Key: []byte(key), Value: []byte(value), Kids: []api.Tree{l, r}}
}

func dark(l api.Tree, key string, value []byte, r api.Tree) api.Tree {
	return api.Tree{Kind: api.TreeDark, Key: []byte(key), Digest: value, Kids: []api.Tree{l, r}}
}

func cut(d []byte) api.Tree {
	return api.Tree{Kind: api.TreeCut, Digest: d}
}

func leaf(key string) api.Tree { return node(none, key, "v"+key, none) }

// filled returns n bytes without a short period, so that a mixed-up order shows.
func filled(n int, seed uint32) []byte {
	out := make([]byte, n)
	x := seed*2654435761 + 1
	for i := range out {
		x = x*1664525 + 1013904223
		out[i] = byte(x >> 24)
	}
	return out
}

// cloned is a copy that shares no memory.
func cloned(t api.Tree) api.Tree {
	t.Key, t.Value, t.Digest = bytes.Clone(t.Key), bytes.Clone(t.Value), bytes.Clone(t.Digest)
	t.Kids = slices.Clone(t.Kids)
	for i := range t.Kids {
		t.Kids[i] = cloned(t.Kids[i])
	}
	return t
}

// same compares trees by what they say: nil and empty are one.
func same(a, b api.Tree) bool {
	return a.Kind == b.Kind && bytes.Equal(a.Key, b.Key) && bytes.Equal(a.Value, b.Value) &&
		bytes.Equal(a.Digest, b.Digest) && slices.EqualFunc(a.Kids, b.Kids, same)
}

// spelledDepth is the depth of P4.1 by the document's words.
func spelledDepth(t api.Tree) int {
	deepest := 0
	for _, kid := range t.Kids {
		deepest = max(deepest, spelledDepth(kid))
	}
	if len(t.Kids) > 0 || t.Kind == 1 || t.Kind == 2 {
		return 1 + deepest
	}
	return 0
}

// spelledForm tells by the document's words whether all parts are as defined:
// what a kind does not have is taken away from a copy, which must not change it.
func spelledForm(t api.Tree) bool {
	has := api.Tree{Kind: t.Kind}
	switch t.Kind {
	case 0:
	case 1:
		has.Key, has.Value, has.Kids = t.Key, t.Value, t.Kids
	case 2:
		has.Key, has.Digest, has.Kids = t.Key, t.Digest, t.Kids
	case 3:
		has.Digest = t.Digest
	default:
		return false
	}
	lengths := func(t api.Tree) [4]int { return [4]int{len(t.Key), len(t.Value), len(t.Digest), len(t.Kids)} }
	if lengths(has) != lengths(t) || len(t.Key) > 80 || len(t.Value) > 1024 {
		return false
	}
	if (t.Kind == 1 || t.Kind == 2) && len(t.Kids) != 2 {
		return false
	}
	return !slices.ContainsFunc(t.Kids, func(kid api.Tree) bool { return !spelledForm(kid) })
}

func spelledCheck(t api.Tree) error {
	if spelledDepth(t) > 64 {
		return api.ErrDepth
	}
	if !spelledForm(t) {
		return api.ErrForm
	}
	return nil
}

// parts are all parts of a tree, itself first.
func parts(t api.Tree) []api.Tree {
	out := []api.Tree{t}
	for _, kid := range t.Kids {
		out = append(out, parts(kid)...)
	}
	return out
}

// sum is the digest of the joined bytes, by the library's SHA-256.
func sum(w int, pieces ...[]byte) []byte {
	d := sha256.Sum256(slices.Concat(pieces...))
	return d[:w]
}

func valueSum(w int, value []byte) []byte { return sum(w, []byte{0}, value) }

// spelledDigest is the digest of a tree that Check accepts, by the document's
// words.
func spelledDigest(w int, t api.Tree) []byte {
	switch t.Kind {
	case 0:
		return sum(w, []byte{3})
	case 3:
		return t.Digest
	}
	value := t.Digest
	if t.Kind == 1 {
		value = valueSum(w, t.Value)
	}
	pair := sum(w, []byte{1, byte(len(t.Key))}, t.Key, value)
	return sum(w, []byte{2}, spelledDigest(w, t.Kids[0]), pair, spelledDigest(w, t.Kids[1]))
}

func mustCheck(t testing.TB, what string, x api.Tree, want error) {
	t.Helper()
	if err := tree.Check(x); err != want {
		t.Errorf("Check of %s = %v, want %v", what, err, want)
	}
}

func mustDigest(t testing.TB, what string, w int, x api.Tree, want []byte) {
	t.Helper()
	if got, err := tree.Digest(w, x); err != nil || !bytes.Equal(got, want) {
		t.Errorf("Digest(%d) of %s = %x, %v, want %x", w, what, got, err, want)
	}
}

// mustRefuse wants the error itself, a plain Code, and no bytes beside it.
func mustRefuse(t testing.TB, what string, w int, x api.Tree, want error) {
	t.Helper()
	if got, err := tree.Digest(w, x); err != want || len(got) != 0 {
		t.Errorf("Digest(%d) of %s = %x, %v, want %v alone", w, what, got, err, want)
	}
}

// mustBeNothing wants what Full, Depth and List answer for what is no tree.
func mustBeNothing(t testing.TB, what string, x api.Tree) {
	t.Helper()
	if tree.Full(x) || tree.Depth(x) != 0 || len(tree.List(x)) != 0 {
		t.Errorf("of %s: Full %v, Depth %d, List %v", what, tree.Full(x), tree.Depth(x), tree.List(x))
	}
}

type named struct {
	name string
	t    api.Tree
}

// goodTrees are trees of every kind, at the edges of what a field may hold.
func goodTrees() []named {
	long := string(filled(80, 1))
	out := []named{
		{"the empty tree", none},
		{"the empty tree with empty fields", api.Tree{Key: []byte{}, Value: []byte{}, Digest: []byte{}, Kids: []api.Tree{}}},
		{"a node without key and value", api.Tree{Kind: 1, Kids: []api.Tree{none, none}}},
		{"a node with an empty Digest", api.Tree{Kind: 1, Digest: []byte{}, Kids: []api.Tree{none, none}}},
		{"a node of the greatest key", node(none, long, "", none)},
		{"a node of the greatest value", node(none, "", string(filled(1024, 2)), none)},
		{"a node of both", node(none, long, string(filled(1024, 3)), none)},
		{"a dark node of the greatest key", dark(none, long, filled(32, 4), none)},
		{"a dark node with an empty Value", api.Tree{Kind: 2, Value: []byte{}, Digest: []byte{1}, Kids: []api.Tree{none, none}}},
		{"a cut with empty fields", api.Tree{Kind: 3, Key: []byte{}, Value: []byte{}, Digest: []byte{1}, Kids: []api.Tree{}}},
		{"keys that do not rise", node(leaf("c"), "b", "", leaf("a"))},
		{"one key thrice", node(leaf("a"), "a", "", leaf("a"))},
		{"a tree of all kinds", node(dark(cut(filled(32, 5)), "b", filled(32, 6), leaf("c")), "d", "", none)},
	}
	for _, n := range []int{0, 1, 2, 31, 32, 33, 80, 81, 1024, 1025, 5000} {
		out = append(out,
			named{fmt.Sprintf("a cut of %d bytes", n), cut(filled(n, 7))},
			named{fmt.Sprintf("a dark node of %d bytes", n), dark(none, "k", filled(n, 8), none)},
			named{fmt.Sprintf("digests of %d bytes below", n), node(cut(filled(n, 9)), "k", "", dark(none, "l", filled(n, 10), none))})
	}
	return out
}

// badTrees are parts that are not as defined, none of them deep.
func badTrees() []named {
	two := []api.Tree{none, none}
	key, long, wide, sum := []byte("k"), filled(81, 1), filled(1025, 2), filled(32, 3)
	out := []named{
		{"a none with a Key", api.Tree{Key: key}},
		{"a none with a Value", api.Tree{Value: key}},
		{"a none with a Digest", api.Tree{Digest: sum}},
		{"a none with one Kid", api.Tree{Kids: []api.Tree{none}}},
		{"a none with two Kids", api.Tree{Kids: two}},
		{"a none with a node's fields", api.Tree{Key: key, Value: key, Kids: two}},
		{"a node with a Digest", api.Tree{Kind: 1, Key: key, Value: key, Digest: sum, Kids: two}},
		{"a node with a Digest of one byte", api.Tree{Kind: 1, Digest: []byte{0}, Kids: two}},
		{"a node with a Digest for a Value", api.Tree{Kind: 1, Key: key, Digest: sum, Kids: two}},
		{"a node with a Key of 81", api.Tree{Kind: 1, Key: long, Kids: two}},
		{"a node with a Key of 1024", api.Tree{Kind: 1, Key: wide[:1024], Kids: two}},
		{"a node with a Value of 1025", api.Tree{Kind: 1, Value: wide, Kids: two}},
		{"a dark node with a Value", api.Tree{Kind: 2, Key: key, Value: key, Digest: sum, Kids: two}},
		{"a dark node with a Value for a Digest", api.Tree{Kind: 2, Key: key, Value: key, Kids: two}},
		{"a dark node with a Key of 81", api.Tree{Kind: 2, Key: long, Digest: sum, Kids: two}},
		{"a cut with a Key", api.Tree{Kind: 3, Key: key, Digest: sum}},
		{"a cut with a Value", api.Tree{Kind: 3, Value: key, Digest: sum}},
		{"a cut with one Kid", api.Tree{Kind: 3, Digest: sum, Kids: []api.Tree{none}}},
		{"a cut with two Kids", api.Tree{Kind: 3, Digest: sum, Kids: two}},
	}
	for _, n := range []int{0, 1, 3, 4, 100} {
		kids := make([]api.Tree, n)
		out = append(out,
			named{fmt.Sprintf("a node with %d Kids", n), api.Tree{Kind: 1, Key: key, Kids: kids}},
			named{fmt.Sprintf("a dark node with %d Kids", n), api.Tree{Kind: 2, Key: key, Digest: sum, Kids: kids}})
	}
	for _, kind := range otherKinds {
		out = append(out,
			named{fmt.Sprintf("a kind %d", kind), api.Tree{Kind: kind}},
			named{fmt.Sprintf("a kind %d with a node's fields", kind), api.Tree{Kind: kind, Key: key, Value: key, Kids: two}},
			named{fmt.Sprintf("a kind %d with a dark node's fields", kind), api.Tree{Kind: kind, Key: key, Digest: sum, Kids: two}},
			named{fmt.Sprintf("a kind %d with a cut's fields", kind), api.Tree{Kind: kind, Digest: sum}})
	}
	return out
}

// places put a tree where a traversal might not look.
var places = []struct {
	name string
	put  func(api.Tree) api.Tree
}{
	{"alone", func(x api.Tree) api.Tree { return x }},
	{"on the left", func(x api.Tree) api.Tree { return node(x, "k", "v", leaf("l")) }},
	{"on the right", func(x api.Tree) api.Tree { return node(leaf("j"), "k", "v", x) }},
	{"left of a dark node", func(x api.Tree) api.Tree { return dark(x, "k", filled(32, 1), none) }},
	{"right of a dark node", func(x api.Tree) api.Tree { return dark(none, "k", filled(32, 1), x) }},
	{"behind a cut", func(x api.Tree) api.Tree { return node(cut(filled(32, 2)), "k", "v", x) }},
	{"two below", func(x api.Tree) api.Tree { return node(leaf("a"), "b", "v", node(x, "d", "v", leaf("e"))) }},
	{"60 below", func(x api.Tree) api.Tree {
		for i := range 60 {
			if i%2 == 0 {
				x = node(none, "k", "", x)
			} else {
				x = dark(x, "k", filled(32, 3), none)
			}
		}
		return x
	}},
}

// deepKinds are the makers of a step of depth one above a list of trees: the
// nodes, and what counts as a node although it is none.
var deepKinds = []struct {
	name string
	good bool
	step func(api.Tree) api.Tree
}{
	{"nodes to the left", true, func(x api.Tree) api.Tree { return node(x, "k", "", none) }},
	{"nodes to the right", true, func(x api.Tree) api.Tree { return node(none, "k", "", x) }},
	{"dark nodes to the left", true, func(x api.Tree) api.Tree { return dark(x, "k", filled(32, 1), none) }},
	{"dark nodes to the right", true, func(x api.Tree) api.Tree { return dark(cut(filled(32, 1)), "k", filled(32, 1), x) }},
	{"nones with one Kid", false, func(x api.Tree) api.Tree { return api.Tree{Kids: []api.Tree{x}} }},
	{"nones with two Kids", false, func(x api.Tree) api.Tree { return api.Tree{Kids: []api.Tree{none, x}} }},
	{"cuts with one Kid", false, func(x api.Tree) api.Tree { return api.Tree{Kind: 3, Digest: []byte{1}, Kids: []api.Tree{x}} }},
	{"cuts with two Kids", false, func(x api.Tree) api.Tree { return api.Tree{Kind: 3, Kids: []api.Tree{x, none}} }},
	{"kinds 4", false, func(x api.Tree) api.Tree { return api.Tree{Kind: 4, Kids: []api.Tree{x, none}} }},
	{"kinds -1", false, func(x api.Tree) api.Tree { return api.Tree{Kind: -1, Kids: []api.Tree{x}} }},
	{"nodes with one Kid", false, func(x api.Tree) api.Tree { return api.Tree{Kind: 1, Kids: []api.Tree{x}} }},
	{"nodes with a third Kid", false, func(x api.Tree) api.Tree { return api.Tree{Kind: 1, Kids: []api.Tree{none, none, x}} }},
	{"dark nodes with five Kids", false, func(x api.Tree) api.Tree {
		return api.Tree{Kind: 2, Kids: []api.Tree{none, none, none, x, none}}
	}},
}

func stacked(n int, x api.Tree, step func(api.Tree) api.Tree) api.Tree {
	for range n {
		x = step(x)
	}
	return x
}

// P4.1

func TestCheckAccepts(t *testing.T) {
	for _, good := range goodTrees() {
		for _, at := range places {
			mustCheck(t, good.name+" "+at.name, at.put(good.t), nil)
		}
	}
}

func TestCheckRefusesWhatIsNotAsDefined(t *testing.T) {
	for _, bad := range badTrees() {
		for _, at := range places {
			mustCheck(t, bad.name+" "+at.name, at.put(bad.t), api.ErrForm)
		}
	}
}

func TestCheckExamples(t *testing.T) {
	mustCheck(t, "a node with one Kid", api.Tree{Kind: api.TreeNode, Kids: []api.Tree{none}}, api.ErrForm)
	mustCheck(t, "a TreeCut with a Key", api.Tree{Kind: api.TreeCut, Key: []byte("a")}, api.ErrForm)
}

func TestCheckOfDepths(t *testing.T) {
	for _, kind := range deepKinds {
		for _, n := range []int{1, 2, 62, 63, 64, 65, 66, 128, 1000, 65535} {
			want := error(api.ErrForm)
			if n > 64 {
				want = api.ErrDepth
			} else if kind.good {
				want = nil
			}
			mustCheck(t, fmt.Sprintf("%d %s", n, kind.name), stacked(n, none, kind.step), want)
			mustCheck(t, fmt.Sprintf("%d %s above a cut", n, kind.name), stacked(n, cut([]byte{1}), kind.step), want)
		}
	}
}

// TestNodesWithoutKidsCount sets at the end of a way what counts as a node
// because of its kind alone, because of its Kids alone, or not at all.
func TestNodesWithoutKidsCount(t *testing.T) {
	ends := []struct {
		name   string
		counts bool
		t      api.Tree
	}{
		{"a node without Kids", true, api.Tree{Kind: 1}},
		{"a node with an empty list of Kids", true, api.Tree{Kind: 1, Kids: []api.Tree{}}},
		{"a dark node without Kids", true, api.Tree{Kind: 2}},
		{"a none with a Kid", true, api.Tree{Kids: []api.Tree{none}}},
		{"a cut with a Kid", true, api.Tree{Kind: 3, Kids: []api.Tree{none}}},
		{"a kind 4 with a Kid", true, api.Tree{Kind: 4, Kids: []api.Tree{none}}},
		{"a kind 4", false, api.Tree{Kind: 4}},
		{"a kind 4 with an empty list of Kids", false, api.Tree{Kind: 4, Kids: []api.Tree{}}},
		{"a kind -1 with a Key", false, api.Tree{Kind: -1, Key: []byte("k")}},
		{"a none with a Key", false, api.Tree{Key: []byte("k"), Value: []byte("v")}},
		{"a cut with a Key", false, api.Tree{Kind: 3, Key: []byte("k")}},
	}
	for _, end := range ends {
		for _, kind := range deepKinds {
			mustCheck(t, "63 "+kind.name+" above "+end.name, stacked(63, end.t, kind.step), api.ErrForm)
			want := api.ErrForm
			if end.counts {
				want = api.ErrDepth
			}
			mustCheck(t, "64 "+kind.name+" above "+end.name, stacked(64, end.t, kind.step), want)
			mustCheck(t, "65 "+kind.name+" above "+end.name, stacked(65, end.t, kind.step), api.ErrDepth)
		}
	}
}

// TestDepthGoesBeforeForm has something that is not as defined above, before
// and behind a way that is too long.
func TestDepthGoesBeforeForm(t *testing.T) {
	for _, kind := range deepKinds {
		limit, deep := stacked(63, none, kind.step), stacked(64, none, kind.step)
		for _, bad := range badTrees() {
			// Each of these is one deeper than what it is made of.
			forms := []func(api.Tree) api.Tree{
				func(x api.Tree) api.Tree { return node(bad.t, "k", "", x) },
				func(x api.Tree) api.Tree { return node(x, "k", "", bad.t) },
				func(x api.Tree) api.Tree { y := bad.t; y.Kids = []api.Tree{x}; return y },
				func(x api.Tree) api.Tree { y := bad.t; y.Kids = []api.Tree{none, x, none}; return y },
			}
			for i, form := range forms {
				what := fmt.Sprintf("%s in form %d with %s", kind.name, i, bad.name)
				mustCheck(t, what, form(limit), api.ErrForm)
				mustCheck(t, what, form(deep), api.ErrDepth)
				mustRefuse(t, what, 32, form(deep), api.ErrDepth)
			}
		}
	}
}

// TestCheckOfATreeWithinItself has ways without an end.
func TestCheckOfATreeWithinItself(t *testing.T) {
	for n := 1; n <= 3; n++ {
		for at := range n {
			for kind := -1; kind <= 4; kind++ {
				kids := make([]api.Tree, n)
				for i := range kids[at:] {
					kids[at+i] = api.Tree{Kind: kind, Kids: kids}
				}
				what := fmt.Sprintf("a tree of kind %d within itself, %d of %d", kind, at, n)
				mustCheck(t, what, api.Tree{Kind: kind, Kids: kids}, api.ErrDepth)
				mustRefuse(t, what, 1, api.Tree{Kind: kind, Kids: kids}, api.ErrDepth)
				mustBeNothing(t, what, api.Tree{Kind: kind, Kids: kids})
			}
		}
	}
}

// P4.2

func TestDigestExamples(t *testing.T) {
	mustDigest(t, "the empty tree", 1, none, []byte{8})
	for w := 1; w <= 32; w++ {
		mustDigest(t, "the empty tree", w, none, sum(w, []byte{3}))
	}
}

// TestDigestOfOnePair follows layer 3 step by step.
func TestDigestOfOnePair(t *testing.T) {
	must := func(b []byte, err error) []byte {
		if err != nil {
			t.Fatal(err)
		}
		return b
	}
	for w := 1; w <= 32; w++ {
		value := must(digest.Of(w, digest.Value([]byte("1"))))
		pair := must(digest.Of(w, must(digest.Pair(w, []byte("a"), value))))
		empty := must(digest.Of(w, digest.None()))
		want := must(digest.Of(w, must(digest.Node(w, empty, pair, empty))))
		mustDigest(t, "the pair a 1", w, node(none, "a", "1", none), want)
		mustDigest(t, "the pair a and its value's digest", w, dark(none, "a", value, none), want)
	}
}

// TestKnownDigests holds two digests, written out, that were made of the
// document's words by another program.
func TestKnownDigests(t *testing.T) {
	one := node(none, "a", "1", none)
	three := node(one, "b", "2", node(none, "c", "3", none))
	for _, known := range []struct {
		t   api.Tree
		hex string
	}{
		{one, "839a57ace98e929adc9aefa5e94921c1e46142b5c769a7c126b9f6181ad658c6"},
		{three, "dc11255726548800b4ca49f3aa3fcb5e0710c57bd76ad67e894ec0102a52ae5c"},
	} {
		want, err := hex.DecodeString(known.hex)
		if err != nil {
			t.Fatal(err)
		}
		mustDigest(t, "a known tree", 32, known.t, want)
	}
}

func TestDigestOfRandomTrees(t *testing.T) {
	r := rand.New(rand.NewSource(4))
	for i := range 400 {
		w := 1 + i%32
		x := randomTree(r, w, r.Intn(7), true)
		mustDigest(t, fmt.Sprintf("the random tree %d", i), w, x, spelledDigest(w, x))
	}
}

func TestDigestAtTheEdges(t *testing.T) {
	for _, w := range []int{1, 20, 32} {
		for _, x := range []named{
			{"64 nodes to the left", stacked(64, none, deepKinds[0].step)},
			{"64 nodes to the right", stacked(64, none, deepKinds[1].step)},
			{"the greatest pair", node(none, string(filled(80, 1)), string(filled(1024, 2)), none)},
			{"a node without key and value", api.Tree{Kind: 1, Kids: []api.Tree{none, none}}},
			{"a dark node without key", dark(none, "", filled(w, 3), cut(filled(w, 4)))},
			{"a cut", cut(filled(w, 5))},
			{"a node between cuts", node(cut(filled(w, 6)), "k", "v", cut(filled(w, 7)))},
		} {
			mustDigest(t, x.name, w, x.t, spelledDigest(w, x.t))
		}
	}
}

// TestDigestsTellTreesApart changes one thing at a time.
func TestDigestsTellTreesApart(t *testing.T) {
	trees := []api.Tree{
		none, leaf("a"), leaf("b"), node(none, "a", "w", none), node(none, "", "ava", none), node(none, "av", "a", none),
		node(leaf("a"), "b", "", none), node(none, "b", "", leaf("a")), node(leaf("a"), "b", "", leaf("a")),
		node(leaf("a"), "b", "", leaf("c")), node(leaf("c"), "b", "", leaf("a")),
		node(node(leaf("a"), "b", "", none), "c", "", none), node(leaf("a"), "b", "", node(none, "c", "", none)),
		dark(none, "a", filled(32, 1), none), dark(none, "a", filled(32, 2), none), cut(filled(32, 1)), cut(filled(32, 2)),
	}
	seen := map[string]int{}
	for i, x := range trees {
		d, err := tree.Digest(32, x)
		if err != nil {
			t.Fatal(err)
		}
		if j, ok := seen[string(d)]; ok {
			t.Errorf("the trees %d and %d have one digest", i, j)
		}
		seen[string(d)] = i
	}
}

// TestDigestRefusesOtherWidths: the width goes before whatever the tree is.
func TestDigestRefusesOtherWidths(t *testing.T) {
	deep := stacked(65, none, deepKinds[0].step)
	for _, w := range badWidths {
		mustRefuse(t, "a tree too deep", w, deep, api.ErrArg)
		for _, x := range slices.Concat(goodTrees(), badTrees()) {
			mustRefuse(t, x.name, w, x.t, api.ErrArg)
		}
		// Digests of just w bytes, where there can be such, are no excuse for w.
		mustRefuse(t, "a cut of the width", w, cut(filled(min(max(w, 0), 70000), 1)), api.ErrArg)
	}
}

func TestDigestReturnsTheErrorOfCheck(t *testing.T) {
	for _, w := range []int{1, 31, 32} {
		for _, bad := range badTrees() {
			for _, at := range places {
				mustRefuse(t, bad.name+" "+at.name, w, at.put(bad.t), api.ErrForm)
			}
		}
		// A Digest of another length must not hide that the tree is too deep.
		for _, kind := range deepKinds {
			mustRefuse(t, "65 "+kind.name, w, stacked(65, none, kind.step), api.ErrDepth)
			mustRefuse(t, "65 "+kind.name+" above a cut", w, stacked(65, cut(filled(w+1, 1)), kind.step), api.ErrDepth)
		}
	}
}

func TestDigestRefusesOtherLengths(t *testing.T) {
	for w := 1; w <= 32; w++ {
		right := filled(w, 1)
		for _, n := range []int{0, 1, 2, w - 1, w, w + 1, 2 * w, 31, 32, 33, 64, 80, 1024, 256 + w} {
			d := filled(n, 2)
			for i, x := range []api.Tree{
				cut(d),
				dark(none, "k", d, none),
				node(cut(d), "k", "", none),
				node(none, "k", "", cut(d)),
				node(cut(right), "k", "", cut(d)),
				node(cut(d), "k", "", cut(right)),
				dark(cut(right), "k", d, cut(right)),
				dark(cut(right), "k", right, cut(d)),
				dark(dark(none, "j", d, none), "k", right, none),
				node(leaf("a"), "b", "", node(leaf("c"), "d", "", dark(none, "e", d, none))),
				stacked(64, cut(d), func(x api.Tree) api.Tree { return dark(none, "k", right, x) }),
			} {
				what := fmt.Sprintf("the tree %d with a Digest of %d", i, n)
				mustCheck(t, what, x, nil)
				if n == w {
					mustDigest(t, what, w, x, spelledDigest(w, x))
				} else {
					mustRefuse(t, what, w, x, api.ErrForm)
				}
			}
		}
		// Lengths that are right on the whole, and not one by one.
		mustRefuse(t, "cuts of two lengths", w, node(cut(filled(w-1, 3)), "k", "", cut(filled(w+1, 3))), api.ErrForm)
	}
}

// P4.3

func TestFullDepthAndList(t *testing.T) {
	d := filled(32, 1)
	for _, x := range []struct {
		name  string
		t     api.Tree
		full  bool
		depth int
		keys  string
	}{
		{"the empty tree", none, true, 0, ""},
		{"a cut", cut(d), false, 0, ""},
		{"a cut of no bytes", cut(nil), false, 0, ""},
		{"a leaf", leaf("a"), true, 1, "a"},
		{"a dark node", dark(none, "a", d, none), false, 1, "a"},
		{"a dark node of no bytes", dark(none, "a", nil, none), false, 1, "a"},
		{"a node between cuts", node(cut(d), "a", "", cut(d)), false, 1, "a"},
		{"a node left of a cut", node(leaf("a"), "b", "", cut(d)), false, 2, "ab"},
		{"a cut left of a node", node(cut(d), "a", "", leaf("b")), false, 2, "ab"},
		{"a way to the left", node(node(leaf("a"), "b", "", none), "c", "", none), true, 3, "abc"},
		{"a way to the right", node(none, "a", "", node(none, "b", "", leaf("c"))), true, 3, "abc"},
		{"three nodes", node(leaf("a"), "b", "", leaf("c")), true, 2, "abc"},
		{"keys that fall", node(leaf("c"), "b", "", leaf("a")), true, 2, "cba"},
		{"a zigzag", node(none, "a", "", node(node(none, "b", "", leaf("c")), "d", "", none)), true, 4, "abcd"},
		{"dark and light", dark(leaf("a"), "b", d, dark(leaf("c"), "d", d, cut(d))), false, 3, "abcd"},
		{"one dark node at the end", node(leaf("a"), "b", "", node(none, "c", "", dark(none, "d", d, none))), false, 3, "abcd"},
		{"one dark node at the beginning", node(dark(none, "a", d, none), "b", "", leaf("c")), false, 2, "abc"},
	} {
		if got := tree.Full(x.t); got != x.full {
			t.Errorf("Full of %s = %v", x.name, got)
		}
		if got := tree.Depth(x.t); got != x.depth {
			t.Errorf("Depth of %s = %d, want %d", x.name, got, x.depth)
		}
		keys := ""
		for _, n := range tree.List(x.t) {
			keys += string(n.Key)
		}
		if keys != x.keys {
			t.Errorf("List of %s has the keys %q, want %q", x.name, keys, x.keys)
		}
	}
}

func TestListGivesTheNodesWithTheirKids(t *testing.T) {
	a, c := leaf("a"), dark(cut([]byte{1}), "c", []byte{2, 3}, cut(nil))
	b := node(a, "b", "w", c)
	got := tree.List(b)
	if !reflect.DeepEqual(got, []api.Tree{a, b, c}) {
		t.Errorf("List = %v", got)
	}
}

func TestDepthAtTheEdge(t *testing.T) {
	for _, kind := range deepKinds {
		for _, n := range []int{1, 63, 64, 65, 66, 1000} {
			x, what := stacked(n, none, kind.step), fmt.Sprintf("%d %s", n, kind.name)
			if !kind.good || n > 64 {
				mustBeNothing(t, what, x)
				continue
			}
			if got := tree.Depth(x); got != n {
				t.Errorf("Depth of %s = %d", what, got)
			}
			if got := len(tree.List(x)); got != n {
				t.Errorf("List of %s has %d nodes", what, got)
			}
		}
	}
}

func TestWhatIsNoTreeHasNothing(t *testing.T) {
	for _, bad := range badTrees() {
		for _, at := range places {
			mustBeNothing(t, bad.name+" "+at.name, at.put(bad.t))
		}
	}
	// All nodes but one are as they should be.
	mustBeNothing(t, "a node with a third Kid", api.Tree{Kind: 1, Kids: []api.Tree{leaf("a"), leaf("c"), none}})
}

// TestFullOfGoodTrees holds the three against the words of the document.
func TestFullOfGoodTrees(t *testing.T) {
	for _, good := range goodTrees() {
		for _, at := range places {
			mustAgree(t, good.name+" "+at.name, 32, at.put(good.t))
		}
	}
}

// mustAgree holds all functions against the words of the document.
func mustAgree(t testing.TB, what string, w int, x api.Tree) {
	t.Helper()
	want := spelledCheck(x)
	mustCheck(t, what, x, want)
	if w < 1 || w > 32 {
		mustRefuse(t, what, w, x, api.ErrArg)
	} else if want != nil {
		mustRefuse(t, what, w, x, want)
	}
	if want != nil {
		mustBeNothing(t, what, x)
		return
	}
	full, fits := true, true
	for _, part := range parts(x) {
		if part.Kind == 2 || part.Kind == 3 {
			full, fits = false, fits && len(part.Digest) == w
		}
	}
	if fits && 1 <= w && w <= 32 {
		mustDigest(t, what, w, x, spelledDigest(w, x))
	} else if 1 <= w && w <= 32 {
		mustRefuse(t, what, w, x, api.ErrForm)
	}
	if got := tree.Full(x); got != full {
		t.Errorf("Full of %s = %v", what, got)
	}
	if got := tree.Depth(x); got != spelledDepth(x) {
		t.Errorf("Depth of %s = %d", what, got)
	}
	if got := tree.List(x); !slices.EqualFunc(got, spelledList(x), same) {
		t.Errorf("List of %s = %v", what, got)
	}
}

func spelledList(t api.Tree) []api.Tree {
	if len(t.Kids) != 2 {
		return nil
	}
	return slices.Concat(spelledList(t.Kids[0]), []api.Tree{t}, spelledList(t.Kids[1]))
}

// P4.4

// roomy returns a tree whose byte strings and Kids lie within longer arrays: a
// function that appends to one of them would write into what stands behind it.
func roomy(t api.Tree) api.Tree {
	t.Key, t.Value, t.Digest = roomyBytes(t.Key), roomyBytes(t.Value), roomyBytes(t.Digest)
	kids := append(slices.Clone(t.Kids), leaf("y"), leaf("z"))
	t.Kids = kids[:len(t.Kids)]
	for i := range t.Kids {
		t.Kids[i] = roomy(t.Kids[i])
	}
	return t
}

func roomyBytes(b []byte) []byte {
	return slices.Concat(b, bytes.Repeat([]byte{0xee}, 100))[:len(b)]
}

// wholeOf spells all that a tree's memory holds, what stands behind its fields
// among it.
func wholeOf(t api.Tree) string {
	out := fmt.Sprintf("%d %x %x %x %d(", t.Kind, t.Key[:cap(t.Key)], t.Value[:cap(t.Value)], t.Digest[:cap(t.Digest)], len(t.Kids))
	for _, kid := range t.Kids[:cap(t.Kids)] {
		out += wholeOf(kid) + ","
	}
	return out + ")"
}

// scrub overwrites all of a tree's memory.
func scrub(t api.Tree) {
	for _, b := range [][]byte{t.Key, t.Value, t.Digest} {
		flip(b)
	}
	for i := range t.Kids {
		scrub(t.Kids[i])
		t.Kids[i] = leaf("scrubbed")
	}
}

func flip(b []byte) {
	b = b[:cap(b)]
	for i := range b {
		b[i] = ^b[i]
	}
}

func TestArgumentsStay(t *testing.T) {
	deep := named{"a tree too deep", stacked(65, none, deepKinds[0].step)}
	for _, x := range append(slices.Concat(goodTrees(), badTrees()), deep) {
		arg := roomy(x.t)
		before := wholeOf(arg)
		for range 2 {
			tree.Check(arg)
			for _, w := range []int{0, 1, 2, 31, 32, 33} {
				tree.Digest(w, arg)
			}
			tree.Full(arg)
			tree.Depth(arg)
			tree.List(arg)
		}
		if wholeOf(arg) != before {
			t.Errorf("%s was modified", x.name)
		}
	}
}

// TestListMayBeAppendedTo: its list is new memory, whatever its elements share.
func TestListMayBeAppendedTo(t *testing.T) {
	arg := roomy(node(leaf("a"), "b", "", leaf("c")))
	before := wholeOf(arg)
	list := tree.List(arg)
	for i := range list {
		list[i] = none
	}
	list = append(list, leaf("d"), leaf("e"), leaf("f"))
	if len(list) != 6 || wholeOf(arg) != before {
		t.Error("what was done to the list shows in the tree")
	}
}

func TestDigestIsNewMemory(t *testing.T) {
	for _, w := range []int{1, 2, 31, 32} {
		for i, x := range []api.Tree{
			none,
			cut(filled(w, 1)),
			leaf("a"),
			dark(none, "a", filled(w, 2), none),
			node(cut(filled(w, 3)), "b", "v", dark(leaf("c"), "d", filled(w, 4), cut(filled(w, 5)))),
		} {
			arg := roomy(x)
			before := wholeOf(arg)
			got, err := tree.Digest(w, arg)
			if err != nil {
				t.Fatal(err)
			}
			kept := bytes.Clone(got)
			flip(got)
			if wholeOf(arg) != before {
				t.Errorf("width %d: what was done to the digest shows in the tree %d", w, i)
			}
			mustDigest(t, "the tree after its digest was changed", w, arg, kept)
			flip(got)
			scrub(arg)
			if !bytes.Equal(got, kept) {
				t.Errorf("width %d: what was done to the tree %d shows in its digest", w, i)
			}
		}
	}
}

// TestNothingIsRetained changes a tree after it was seen, and back.
func TestNothingIsRetained(t *testing.T) {
	x := node(leaf("a"), "b", "1", cut(filled(32, 1)))
	first, _ := tree.Digest(32, x)
	x.Value[0] = '2'
	second, err := tree.Digest(32, x)
	if err != nil || bytes.Equal(first, second) {
		t.Errorf("Digest = %x, %v after the value was changed", second, err)
	}
	mustDigest(t, "the changed tree", 32, x, spelledDigest(32, x))
	x.Value[0] = '1'
	mustDigest(t, "the tree as it was", 32, x, first)
	x.Kids[1] = leaf("c")
	if !tree.Full(x) || tree.Depth(x) != 2 || len(tree.List(x)) != 3 {
		t.Error("a Kid that was changed does not show")
	}
	x.Kids[0].Kids[0] = api.Tree{Kind: 9}
	mustCheck(t, "the tree with a kind 9", x, api.ErrForm)
	mustBeNothing(t, "the tree with a kind 9", x)
	x.Kids[0].Kids[0] = none
	mustCheck(t, "the tree without it", x, nil)
}

// P4.5

// replacements are all trees in which some parts of a tree are replaced by
// their digests.
func replacements(w int, x api.Tree) []api.Tree {
	out := []api.Tree{cut(spelledDigest(w, x))}
	if x.Kind != 1 && x.Kind != 2 {
		return append(out, x)
	}
	for _, l := range replacements(w, x.Kids[0]) {
		for _, r := range replacements(w, x.Kids[1]) {
			if x.Kind == 1 {
				out = append(out, node(l, string(x.Key), string(x.Value), r), dark(l, string(x.Key), valueSum(w, x.Value), r))
			} else {
				out = append(out, dark(l, string(x.Key), x.Digest, r))
			}
		}
	}
	return out
}

func TestEveryReplacementHasTheDigest(t *testing.T) {
	for _, w := range []int{1, 2, 20, 32} {
		for _, x := range []named{
			{"the empty tree", none},
			{"a leaf", leaf("a")},
			{"three nodes", node(leaf("a"), "b", "", leaf("c"))},
			{"a way", node(none, "a", "", node(node(none, "b", "1", none), "c", "2", none))},
			{"a tree of which parts are replaced", node(cut(filled(w, 1)), "b", "", dark(none, "c", filled(w, 2), leaf("d")))},
		} {
			want, err := tree.Digest(w, x.t)
			if err != nil {
				t.Fatal(err)
			}
			for _, y := range replacements(w, x.t) {
				mustDigest(t, fmt.Sprintf("%s as %v", x.name, y), w, y, want)
			}
		}
	}
}

// TestReplacedByWhatDigestTells replaces a random tree's parts one by one, each
// by what Digest itself tells of it, until nothing but a digest is left.
func TestReplacedByWhatDigestTells(t *testing.T) {
	r := rand.New(rand.NewSource(5))
	for i := range 60 {
		w := 1 + r.Intn(32)
		x := randomTree(r, w, 1+r.Intn(6), i%2 == 0)
		want, err := tree.Digest(w, x)
		if err != nil {
			t.Fatal(err)
		}
		for x.Kind != 3 {
			p := randomPart(r, &x)
			if p.Kind == 1 && r.Intn(2) == 0 {
				value, err := digest.Of(w, digest.Value(p.Value))
				if err != nil {
					t.Fatal(err)
				}
				*p = dark(p.Kids[0], string(p.Key), value, p.Kids[1])
			} else {
				d, err := tree.Digest(w, *p)
				if err != nil {
					t.Fatal(err)
				}
				*p = cut(d)
			}
			mustCheck(t, "a partial tree", x, nil)
			mustDigest(t, fmt.Sprintf("the random tree %d, replaced", i), w, x, want)
		}
	}
}

// randomPart is a part of x that is not a cut; mostly one far down, so that
// many parts are replaced before the whole is.
func randomPart(r *rand.Rand, x *api.Tree) *api.Tree {
	for len(x.Kids) == 2 {
		open := slices.DeleteFunc([]int{0, 1}, func(i int) bool { return x.Kids[i].Kind == 3 })
		if len(open) == 0 || r.Intn(8) == 0 {
			return x
		}
		x = &x.Kids[open[r.Intn(len(open))]]
	}
	return x
}

// randomTree is a tree of at most some depth, with parts that are replaced by
// any digests of a width if it may be partial.
func randomTree(r *rand.Rand, w, depth int, partial bool) api.Tree {
	any := func(n int) []byte { return filled(n, r.Uint32()) }
	if partial && r.Intn(8) == 0 {
		return cut(any(w))
	}
	if depth == 0 || r.Intn(8) == 0 {
		return none
	}
	l, x := randomTree(r, w, depth-1, partial), randomTree(r, w, depth-1, partial)
	if partial && r.Intn(4) == 0 {
		return dark(l, string(any(r.Intn(81))), any(w), x)
	}
	return node(l, string(any(r.Intn(81))), string(any(r.Intn(1025))), x)
}

// treeOf makes a tree of any bytes, well-formed or not: each part takes a
// byte for its kind and its shape, and a few for its fields.
func treeOf(b []byte) api.Tree {
	next := func() int {
		if len(b) == 0 {
			return 0
		}
		n := int(b[0])
		b = b[1:]
		return n
	}
	var part func(left int) api.Tree
	part = func(left int) api.Tree {
		first := next()
		if left == 0 || first%16 == 0 {
			return none
		}
		kids := func(n int) (out []api.Tree) {
			for range n {
				out = append(out, part(left-1))
			}
			return out
		}
		field := func(most int) []byte { return filled(next()*next()%most, uint32(next())) }
		switch first % 16 {
		case 1, 2, 3, 4, 5:
			return api.Tree{Kind: 1, Key: field(81), Value: field(1025), Kids: kids(2)}
		case 6, 7, 8:
			return api.Tree{Kind: 2, Key: field(81), Digest: filled(first/16, 1), Kids: kids(2)}
		case 9, 10:
			return api.Tree{Kind: 3, Digest: filled(first/16, 2)}
		case 11, 12:
			return stacked(next()%70, part(left-1), deepKinds[next()%len(deepKinds)].step)
		case 13:
			return api.Tree{Kind: next() % 6, Key: field(90), Kids: kids(next() % 4)}
		case 14:
			return api.Tree{Kind: next() % 6, Value: field(1100), Kids: kids(next() % 4)}
		}
		return api.Tree{Kind: next()%6 - 1, Digest: field(40), Kids: kids(next() % 4)}
	}
	return part(12)
}

func TestAllCallsOnAnyTree(t *testing.T) {
	for i := range 3000 {
		b := filled(i%50, uint32(i))
		mustAgree(t, fmt.Sprintf("the tree of %x", b), i%36-1, treeOf(b))
	}
}

func FuzzAllCalls(f *testing.F) {
	f.Add(1, []byte{})
	f.Add(32, []byte{1, 1, 1, 1, 1, 1, 1, 0, 0})
	f.Add(2, []byte{38, 1, 1, 1, 41, 42})
	f.Add(3, []byte{11, 64, 0, 0})
	f.Add(3, []byte{11, 65, 0, 0})
	f.Fuzz(func(t *testing.T, w int, b []byte) {
		x := treeOf(b[:min(len(b), 300)])
		kept := cloned(x)
		mustAgree(t, "a tree", w, x)
		if !same(x, kept) {
			t.Error("the tree was modified")
		}
	})
}
