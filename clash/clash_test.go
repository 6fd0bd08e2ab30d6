package clash_test

import (
	"bytes"
	"crypto/sha256"
	"fmt"
	"math"
	mathbits "math/bits"
	"math/rand"
	"slices"
	"strconv"
	"strings"
	"testing"

	"heartwood/api"
	"heartwood/avl"
	"heartwood/check"
	"heartwood/clash"
	"heartwood/digest"
	"heartwood/proof"
	"heartwood/scan"
	"heartwood/tree"
)

// badWidths are those outside of 1 to 32, the ones next to it among them.
var badWidths = []int{0, -1, -2, -32, -33, math.MinInt, 33, 34, 64, 256 + 1, 1<<16 + 1, math.MaxInt}

var none = api.Tree{}

func node(l api.Tree, key, value string, r api.Tree) api.Tree {
	return api.Tree{Kind: api.TreeNode, Key: []byte(key), Value: []byte(value), Kids: []api.Tree{l, r}}
}

func dark(l api.Tree, key string, digest []byte, r api.Tree) api.Tree {
	return api.Tree{Kind: api.TreeDark, Key: []byte(key), Digest: digest, Kids: []api.Tree{l, r}}
}

func cut(digest []byte) api.Tree { return api.Tree{Kind: api.TreeCut, Digest: digest} }

func leaf(key, value string) api.Tree { return node(none, key, value, none) }

// The preimages and the search by the document's words.

func sum(w int, preimage []byte) []byte {
	d := sha256.Sum256(preimage)
	return d[:w]
}

func valueBytes(value []byte) []byte { return slices.Concat([]byte{0}, value) }

func valueSum(w int, part api.Tree) []byte {
	if part.Kind == api.TreeDark {
		return part.Digest
	}
	return sum(w, valueBytes(part.Value))
}

func pairBytes(w int, part api.Tree) []byte {
	return slices.Concat([]byte{1, byte(len(part.Key))}, part.Key, valueSum(w, part))
}

func rootBytes(w int, part api.Tree) []byte {
	if part.Kind == api.TreeNone {
		return []byte{3}
	}
	return slices.Concat([]byte{2}, digestOf(w, part.Kids[0]), sum(w, pairBytes(w, part)), digestOf(w, part.Kids[1]))
}

func digestOf(w int, part api.Tree) []byte {
	if part.Kind == api.TreeCut {
		return part.Digest
	}
	return sum(w, rootBytes(w, part))
}

func searched(w int, p, q api.Tree) (a, b []byte) {
	if p.Kind == api.TreeCut || q.Kind == api.TreeCut {
		return nil, nil
	}
	if a, b = rootBytes(w, p), rootBytes(w, q); !bytes.Equal(a, b) {
		return a, b
	}
	if p.Kind == api.TreeNone {
		return nil, nil
	}
	if a, b = pairBytes(w, p), pairBytes(w, q); !bytes.Equal(a, b) {
		return a, b
	}
	if p.Kind == api.TreeNode && q.Kind == api.TreeNode && !bytes.Equal(p.Value, q.Value) {
		return valueBytes(p.Value), valueBytes(q.Value)
	}
	if a, b = searched(w, p.Kids[0], q.Kids[0]); a != nil {
		return a, b
	}
	return searched(w, p.Kids[1], q.Kids[1])
}

// spelled is P9.1.
func spelled(w int, p, q api.Tree) (a, b []byte, err error) {
	for _, x := range []api.Tree{p, q} {
		if _, err := tree.Digest(w, x); err != nil {
			return nil, nil, err
		}
	}
	if !bytes.Equal(digestOf(w, p), digestOf(w, q)) {
		return nil, nil, api.ErrRoot
	}
	if a, b = searched(w, p, q); a == nil {
		return nil, nil, api.ErrNone
	}
	return a, b, nil
}

// told tells of a tree what lies within so many levels: it may contain itself.
func told(x api.Tree, levels int) string {
	if levels == 0 {
		return ".."
	}
	out := fmt.Sprintf("%d %.20q %.20q %x", x.Kind, x.Key, x.Value, x.Digest)
	for _, kid := range x.Kids {
		out += " (" + told(kid, levels-1) + ")"
	}
	return out
}

// mustCollide wants two different byte strings with one digest.
func mustCollide(t testing.TB, w int, a, b []byte) {
	t.Helper()
	sumA, errA := digest.Of(w, a)
	sumB, errB := digest.Of(w, b)
	if errA != nil || errB != nil || bytes.Equal(a, b) || !bytes.Equal(sumA, sumB) {
		t.Errorf("%x and %x are no collision of width %d", a, b, w)
	}
}

// mustAgree holds Find against the document's words, in both orders.
func mustAgree(t testing.TB, w int, p, q api.Tree) (a, b []byte, err error) {
	t.Helper()
	mustAgreeInOrder(t, w, q, p)
	return mustAgreeInOrder(t, w, p, q)
}

func mustAgreeInOrder(t testing.TB, w int, p, q api.Tree) (a, b []byte, err error) {
	t.Helper()
	wantA, wantB, wantErr := spelled(w, p, q)
	a, b, err = clash.Find(w, p, q)
	if err != wantErr || !bytes.Equal(a, wantA) || !bytes.Equal(b, wantB) {
		t.Errorf("Find(%d) in %s and %s = %x, %x, %v, want %x, %x, %v", w, told(p, 4), told(q, 4), a, b, err, wantA, wantB, wantErr)
	}
	if err != nil {
		if _, isPlain := err.(api.Code); !isPlain || a != nil || b != nil {
			t.Errorf("Find(%d) in %s and %s = %x, %x, %#v, want a plain Code alone", w, told(p, 4), told(q, 4), a, b, err)
		}
		return a, b, err
	}
	mustCollide(t, w, a, b)
	return a, b, err
}

// mustFind wants a and b to be found, in the order of the trees.
func mustFind(t testing.TB, what string, w int, p, q api.Tree, a, b []byte) {
	t.Helper()
	gotA, gotB, err := mustAgreeInOrder(t, w, p, q)
	if err != nil || !bytes.Equal(gotA, a) || !bytes.Equal(gotB, b) {
		t.Errorf("%s, width %d: %x, %x, %v, want %x, %x", what, w, gotA, gotB, err, a, b)
	}
	gotB, gotA, err = mustAgreeInOrder(t, w, q, p)
	if err != nil || !bytes.Equal(gotA, a) || !bytes.Equal(gotB, b) {
		t.Errorf("%s, width %d, exchanged: %x, %x, %v, want %x, %x", what, w, gotB, gotA, err, b, a)
	}
}

// mustTell wants the error for p and q, and the same for q and p.
func mustTell(t testing.TB, what string, w int, p, q api.Tree, want api.Code) {
	t.Helper()
	_, _, err := mustAgreeInOrder(t, w, p, q)
	_, _, exchanged := mustAgreeInOrder(t, w, q, p)
	if err != want || exchanged != want {
		t.Errorf("%s, width %d: %v, exchanged %v, want %v", what, w, err, exchanged, want)
	}
}

// Collisions, found by trying.

// maker makes another thing for each number.
type maker[T any] func(i int) T

// meet finds two different byte strings with one digest, one of each maker.
func meet(t testing.TB, w int, one, other maker[[]byte]) (i, j int) {
	t.Helper()
	of := func(b []byte) string {
		d, err := digest.Of(w, b)
		if err != nil {
			t.Fatal(err)
		}
		return string(d)
	}
	ones, others := map[string]int{}, map[string]int{}
	for n := range 1 << 20 {
		a, b := one(n), other(n)
		sumA, sumB := of(a), of(b)
		if j, ok := others[sumA]; ok && !bytes.Equal(a, other(j)) {
			return n, j
		}
		ones[sumA] = n
		if i, ok := ones[sumB]; ok && !bytes.Equal(one(i), b) {
			return i, n
		}
		others[sumB] = n
	}
	t.Fatalf("no collision of width %d was met with %x", w, one(0))
	return 0, 0
}

// some is a text of its own for each number, never an empty one.
func some(i int) string { return strconv.Itoa(i) }

// twins are two values with one digest, the texts of which begin alike.
func twins(t testing.TB, w int, start string) (string, string) {
	t.Helper()
	named := func(i int) []byte { return digest.Value([]byte(start + some(i))) }
	i, j := meet(t, w, named, named)
	return start + some(i), start + some(j)
}

// keyTwins are two keys whose pairs with one value have one digest.
func keyTwins(t testing.TB, w int, value string) (string, string) {
	t.Helper()
	named := func(i int) []byte { return pairBytes(w, leaf("k"+some(i), value)) }
	i, j := meet(t, w, named, named)
	return "k" + some(i), "k" + some(j)
}

// clashing are two trees with one digest, and what is found in them.
type clashing struct {
	what string
	p, q api.Tree
	a, b []byte
}

// met makes trees of two makers such that those preimages of their roots differ
// and have one digest.
func met(t testing.TB, w int, what string, preimage func(int, api.Tree) []byte, p, q maker[api.Tree]) clashing {
	t.Helper()
	of := func(make maker[api.Tree]) maker[[]byte] {
		return func(i int) []byte { return preimage(w, make(i)) }
	}
	i, j := meet(t, w, of(p), of(q))
	return clashing{what, p(i), q(j), preimage(w, p(i)), preimage(w, q(j))}
}

// rootClashes differ in what the preimages of their roots hold.
func rootClashes(t testing.TB, w int) []clashing {
	l, r := leaf("b", "vb"), node(none, "x", "", leaf("y", "vy"))
	lefts := func(i int) api.Tree { return node(leaf(some(i), ""), "k", "v", r) }
	rights := func(i int) api.Tree { return node(l, "k", "v", leaf("y", some(i))) }
	keys := func(i int) api.Tree { return node(l, some(i), "v", r) }
	values := func(i int) api.Tree { return node(none, "k", some(i), none) }
	both := func(i int) api.Tree { return node(leaf(some(i), ""), "k", "v", leaf("y", some(i))) }
	all := func(i int) api.Tree { return node(leaf(some(i), ""), some(i), some(i), leaf("y", some(i))) }
	darkKeys := func(i int) api.Tree { return dark(l, some(i), sum(w, nil), r) }
	darkValues := func(i int) api.Tree { return dark(none, "k", sum(w, []byte(some(i))), r) }
	cuts := func(i int) api.Tree {
		return node(cut(sum(w, []byte("l"+some(i)))), "k", "v", cut(sum(w, []byte("r"+some(i)))))
	}
	var list []clashing
	add := func(what string, p, q maker[api.Tree]) {
		list = append(list, met(t, w, what, rootBytes, p, q))
	}
	add("left subtrees", lefts, lefts)
	add("right subtrees", rights, rights)
	add("both subtrees", both, both)
	add("keys above one digest", keys, keys)
	add("values of one node", values, values)
	add("all at once", all, all)
	add("dark keys", darkKeys, darkKeys)
	add("dark digests", darkValues, darkValues)
	add("digests of cuts", cuts, cuts)
	add("a node and a dark one", values, darkValues)
	add("left subtrees and cuts", lefts, cuts)
	add("one node and all at once", values, all)
	add("dark keys and keys", darkKeys, keys)
	return list
}

// emptyClashes are the empty tree and one that is not: to meet just the digest
// of the empty tree takes a small width.
func emptyClashes(t testing.TB, w int) []clashing {
	empty := func(int) api.Tree { return none }
	var list []clashing
	add := func(what string, q maker[api.Tree]) { list = append(list, met(t, w, what, rootBytes, empty, q)) }
	add("nothing and a node", func(i int) api.Tree { return leaf(some(i), "v") })
	add("nothing and a dark node", func(i int) api.Tree { return dark(none, some(i), sum(w, nil), none) })
	add("nothing and a node between cuts", func(i int) api.Tree {
		return node(cut(sum(w, []byte(some(i)))), some(i), "", cut(sum(w, nil)))
	})
	add("nothing and three nodes", func(i int) api.Tree { return node(leaf("a", some(i)), "b"+some(i), "", leaf("c", "")) })
	return list
}

// pairClashes have roots with equal preimages, and differ in those of the pairs.
func pairClashes(t testing.TB, w int) []clashing {
	l, r, c := leaf("b", "vb"), node(none, "x", "", leaf("y", "vy")), cut(sum(w, nil))
	keys := func(i int) api.Tree { return leaf(some(i), "v") }
	inner := func(i int) api.Tree { return node(l, some(i), "v", r) }
	values := func(i int) api.Tree { return node(l, "k", some(i), c) }
	both := func(i int) api.Tree { return leaf(some(i), some(i)) }
	darkKeys := func(i int) api.Tree { return dark(l, some(i), sum(w, nil), c) }
	darkValues := func(i int) api.Tree { return dark(c, "k", sum(w, []byte(some(i))), r) }
	darkBoth := func(i int) api.Tree { return dark(none, some(i), sum(w, []byte(some(i))), none) }
	longKeys := func(i int) api.Tree { return leaf(strings.Repeat("k", 70)+fmt.Sprintf("%010d", i), "") }
	var list []clashing
	add := func(what string, p, q maker[api.Tree]) {
		list = append(list, met(t, w, what, pairBytes, p, q))
	}
	add("keys", keys, keys)
	add("keys between subtrees", inner, inner)
	add("values with two digests", values, values)
	add("keys and values", both, both)
	add("keys of dark nodes", darkKeys, darkKeys)
	add("digests of dark nodes", darkValues, darkValues)
	add("keys and digests of dark nodes", darkBoth, darkBoth)
	add("a key and a dark one", keys, darkBoth)
	add("a value and a dark one", values, darkKeys)
	add("keys of 80 bytes", longKeys, longKeys)
	add("an empty key", func(i int) api.Tree { return leaf("", some(i)) }, keys)
	return list
}

// valueClashes have roots and pairs with equal preimages, and differ in those of
// the values.
func valueClashes(t testing.TB, w int) []clashing {
	l, r, c := leaf("b", "vb"), node(none, "x", "", leaf("y", "vy")), cut(sum(w, nil))
	var list []clashing
	add := func(what string, make maker[api.Tree]) {
		of := func(_ int, part api.Tree) []byte { return valueBytes(part.Value) }
		list = append(list, met(t, w, what, of, make, make))
	}
	add("values", func(i int) api.Tree { return leaf("k", some(i)) })
	add("values between subtrees", func(i int) api.Tree { return node(l, "k", some(i), r) })
	add("values between cuts", func(i int) api.Tree { return node(c, "", some(i), c) })
	add("values of 1024 bytes", func(i int) api.Tree {
		return node(dark(l, "d", sum(w, nil), c), "k", strings.Repeat("v", 1014)+fmt.Sprintf("%010d", i), none)
	})
	if w <= 2 { // there are not enough lengths for more
		add("values of many lengths", func(i int) api.Tree { return leaf("k", strings.Repeat("v", i%1025)) })
	}
	return list
}

// clashes are of all kinds that a width lets be found in little time.
func clashes(t testing.TB, w int) []clashing {
	list := slices.Concat(rootClashes(t, w), pairClashes(t, w), valueClashes(t, w))
	if w == 1 {
		list = append(list, emptyClashes(t, w)...)
	}
	return list
}

// place puts two trees with one digest into two larger ones, of which all that
// the search sees before them tells the same.
type place struct {
	name string
	p, q func(api.Tree) api.Tree
}

func places(w int) []place {
	l := node(leaf("c", "vc"), "d", "vd", none)
	darkL := dark(leaf("c", "vc"), "d", valueSum(w, l), cut(digestOf(w, none)))
	below := func(l api.Tree) func(api.Tree) api.Tree {
		return func(x api.Tree) api.Tree { return node(l, "k", "v", x) }
	}
	darkBelow := func(l api.Tree) func(api.Tree) api.Tree {
		return func(x api.Tree) api.Tree { return dark(l, "k", sum(w, valueBytes([]byte("v"))), x) }
	}
	onTheLeft := func(x api.Tree) api.Tree { return node(x, "k", "v", l) }
	leftOfDark := func(x api.Tree) api.Tree { return dark(x, "k", sum(w, []byte("v")), cut(digestOf(w, l))) }
	far := func(x api.Tree) api.Tree {
		for i := range 60 {
			x = []func(api.Tree) api.Tree{onTheLeft, below(none), leftOfDark, darkBelow(l)}[i%4](x)
		}
		return x
	}
	alone := func(x api.Tree) api.Tree { return x }
	return []place{
		{"alone", alone, alone},
		{"on the left", onTheLeft, onTheLeft},
		{"on the right", below(l), below(l)},
		{"on the right of nothing", below(none), below(none)},
		{"left of a dark node", leftOfDark, leftOfDark},
		{"right of a dark node", darkBelow(l), darkBelow(l)},
		{"below a node and a dark one", below(l), darkBelow(l)},
		{"behind a subtree and a cut", below(l), below(cut(digestOf(w, l)))},
		{"behind nothing and a cut", below(none), below(cut(digestOf(w, none)))},
		{"behind two cuts", darkBelow(cut(digestOf(w, l))), below(cut(digestOf(w, l)))},
		{"behind a subtree and a dark one", below(darkL), below(l)},
		{"60 below", far, far},
	}
}

// P9.1

func TestExamples(t *testing.T) {
	mustTell(t, "two empty trees", 1, api.Tree{}, api.Tree{}, api.ErrNone)
	mustTell(t, "the empty tree and a cut of it", 1, api.Tree{}, cut([]byte{0x08}), api.ErrNone)
	mustTell(t, "the empty tree and another cut", 1, api.Tree{}, cut([]byte{0x09}), api.ErrRoot)
}

// TestClashes holds each kind of clash at each place.
func TestClashes(t *testing.T) {
	t.Parallel()
	for w := 1; w <= 3; w++ {
		for _, c := range clashes(t, w) {
			for _, at := range places(w) {
				mustFind(t, c.what+" "+at.name, w, at.p(c.p), at.q(c.q), c.a, c.b)
			}
		}
	}
}

// TestClashesWithTheEmptyTree: also of the width 2, where they are rare.
func TestClashesWithTheEmptyTree(t *testing.T) {
	for _, c := range emptyClashes(t, 2)[:2] {
		for _, at := range places(2) {
			mustFind(t, c.what+" "+at.name, 2, at.p(c.p), at.q(c.q), c.a, c.b)
		}
		if !bytes.Equal(c.a, []byte{3}) {
			t.Errorf("%s: the empty tree's preimage is %x", c.what, c.a)
		}
	}
}

// TestClashesOfWidth4: one of each kind.
func TestClashesOfWidth4(t *testing.T) {
	keys := func(i int) api.Tree { return leaf(some(i), "v") }
	values := func(i int) api.Tree { return leaf("k", some(i)) }
	ofValue := func(_ int, part api.Tree) []byte { return valueBytes(part.Value) }
	for _, c := range []clashing{
		met(t, 4, "roots", rootBytes, values, keys),
		met(t, 4, "pairs", pairBytes, keys, keys),
		met(t, 4, "values", ofValue, values, values),
	} {
		mustFind(t, c.what, 4, c.p, c.q, c.a, c.b)
	}
}

// TestClashesThatAreHidden: what stands below a cut in one of the trees, or as a
// digest in a dark node, contradicts nothing.
func TestClashesThatAreHidden(t *testing.T) {
	t.Parallel()
	for w := 1; w <= 2; w++ {
		for _, c := range clashes(t, w) {
			hidden := cut(digestOf(w, c.p))
			for _, at := range places(w) {
				mustTell(t, c.what+" and a cut "+at.name, w, at.p(c.p), at.q(hidden), api.ErrNone)
				mustTell(t, c.what+" and a cut "+at.name, w, at.p(hidden), at.q(c.q), api.ErrNone)
			}
		}
		for _, c := range valueClashes(t, w) {
			hidden := c.q
			hidden.Kind, hidden.Value, hidden.Digest = api.TreeDark, nil, valueSum(w, c.q)
			for _, at := range places(w) {
				mustTell(t, c.what+" and a dark node "+at.name, w, at.p(c.p), at.q(hidden), api.ErrNone)
				mustTell(t, c.what+" twice dark "+at.name, w, at.p(hidden), at.q(hidden), api.ErrNone)
			}
		}
	}
}

// TestTreesWithThemselves: whatever they hold, they do not contradict themselves.
func TestTreesWithThemselves(t *testing.T) {
	t.Parallel()
	for w := 1; w <= 2; w++ {
		for _, c := range clashes(t, w) {
			for _, at := range places(w) {
				mustTell(t, c.what+" with itself "+at.name, w, at.p(c.p), at.q(c.p), api.ErrNone)
				mustTell(t, c.what+" with itself "+at.name, w, at.p(c.q), at.q(c.q), api.ErrNone)
			}
		}
	}
}

// replacements are all partial trees of x: each node may be shown, dark or cut,
// and an empty tree may be cut as well.
func replacements(w int, x api.Tree) []api.Tree {
	out := []api.Tree{cut(digestOf(w, x))}
	if x.Kind == api.TreeNone {
		return append(out, x)
	}
	for _, l := range replacements(w, x.Kids[0]) {
		for _, r := range replacements(w, x.Kids[1]) {
			out = append(out, node(l, string(x.Key), string(x.Value), r), dark(l, string(x.Key), valueSum(w, x), r))
		}
	}
	return out
}

// TestWhateverIsHidden: two partial trees of one tree do not contradict each
// other.
func TestWhateverIsHidden(t *testing.T) {
	t.Parallel()
	trees := []api.Tree{none, leaf("a", "1"), leaf("", ""), node(none, "a", "1", leaf("b", "2")), node(leaf("a", "1"), "b", "", none)}
	for i, x := range append(trees, node(leaf("a", "1"), "b", "2", leaf("c", "3"))) {
		for w := 1; w <= 32; w++ {
			for _, p := range replacements(w, x) {
				mustTell(t, "a tree and a part of it", w, x, p, api.ErrNone)
				if i == len(trees) || w > 2 && w < 31 {
					continue
				}
				for _, q := range replacements(w, x) {
					mustTell(t, "two parts of a tree", w, p, q, api.ErrNone)
				}
			}
		}
	}
}

// TestEmptyFieldsSayNothing: nil and empty are one.
func TestEmptyFieldsSayNothing(t *testing.T) {
	e, kids := []byte{}, make([]api.Tree, 2)
	for _, c := range [][2]api.Tree{
		{{}, {Key: e, Value: e, Digest: e, Kids: []api.Tree{}}},
		{{Kind: api.TreeNode, Kids: kids}, {Kind: api.TreeNode, Key: e, Value: e, Digest: e, Kids: kids}},
		{{Kind: api.TreeDark, Digest: []byte{1}, Kids: kids}, {Kind: api.TreeDark, Key: e, Value: e, Digest: []byte{1}, Kids: kids}},
		{{Kind: api.TreeCut, Digest: []byte{1}}, {Kind: api.TreeCut, Key: e, Value: e, Digest: []byte{1}, Kids: []api.Tree{}}},
	} {
		mustTell(t, "nil and empty fields", 1, c[0], c[1], api.ErrNone)
	}
}

// Which of several is found.

// kidWith is a subtree with that value, and another digest for each number.
func kidWith(value string, i int) api.Tree { return leaf("kid"+some(i), value) }

// rootFlaws are ways in which the preimages of two roots may differ.
var rootFlaws = []struct {
	name             string
	left, key, right bool
}{
	{"the left digest", true, false, false},
	{"the pair's digest", false, true, false},
	{"the right digest", false, false, true},
	{"all three digests", true, true, true},
}

// several is two trees that differ in several things at once. What they have in
// common below the root, or not, are twins.
type several struct {
	t                               testing.TB
	w                               int
	keys, values, lefts, rights     [2]string
	differ                          int // a bit each: pair, value, left, right
	leftMoves, keyMoves, rightMoves bool
}

func newSeveral(t testing.TB, w int) several {
	s := several{t: t, w: w}
	s.values[0], s.values[1] = twins(t, w, "value")
	s.lefts[0], s.lefts[1] = twins(t, w, "left")
	s.rights[0], s.rights[1] = twins(t, w, "right")
	s.keys[0], s.keys[1] = keyTwins(t, w, s.values[0])
	return s
}

// side makes the tree of one side, moved on by a number where it is to differ
// in what the root's preimage holds.
func (s several) side(side int) maker[api.Tree] {
	return func(i int) api.Tree {
		twin := func(bit int, of [2]string) string { return of[side*(s.differ>>bit&1)] }
		moved := func(moves bool) int {
			if moves {
				return i
			}
			return 0
		}
		key := twin(0, s.keys)
		if s.keyMoves {
			key += some(i)
		}
		left := kidWith(twin(2, s.lefts), moved(s.leftMoves))
		return node(left, key, twin(1, s.values), kidWith(twin(3, s.rights), moved(s.rightMoves)))
	}
}

// first is what is found if the roots' preimages are equal: of the pairs, of the
// values, of the left subtrees, of the right ones.
func (s several) first(p, q api.Tree) (a, b []byte) {
	switch mathbits.TrailingZeros(uint(s.differ)) {
	case 0:
		return pairBytes(s.w, p), pairBytes(s.w, q)
	case 1:
		return valueBytes([]byte(s.values[0])), valueBytes([]byte(s.values[1]))
	case 2:
		return valueBytes([]byte(s.lefts[0])), valueBytes([]byte(s.lefts[1]))
	}
	return valueBytes([]byte(s.rights[0])), valueBytes([]byte(s.rights[1]))
}

func TestFirstOfSeveral(t *testing.T) {
	for w := 1; w <= 3; w++ {
		s := newSeveral(t, w)
		for s.differ = range 16 {
			p, q := s.side(0)(0), s.side(1)(0)
			what := fmt.Sprintf("pair, value, left and right as in %04b", s.differ)
			if s.differ == 0 {
				mustTell(t, what, w, p, q, api.ErrNone)
				continue
			}
			a, b := s.first(p, q)
			mustFind(t, what, w, p, q, a, b)
		}
	}
}

// TestRootsFirst: their preimages go before all that lies below.
func TestRootsFirst(t *testing.T) {
	for w := 1; w <= 2; w++ {
		s := newSeveral(t, w)
		for s.differ = range 16 {
			for _, flaw := range rootFlaws {
				s.leftMoves, s.keyMoves, s.rightMoves = flaw.left, flaw.key, flaw.right
				c := met(t, w, flaw.name, rootBytes, s.side(0), s.side(1))
				mustFind(t, fmt.Sprintf("%s, and below it %04b", c.what, s.differ), w, c.p, c.q, c.a, c.b)
			}
		}
	}
}

// names are seven nodes: the root, all on its left, all on its right, each part
// in the same order.
var names = []string{"d", "b", "a", "c", "f", "e", "g"}

// seven makes the tree of those names; value is asked for each place.
func seven(value func(at int) string) api.Tree {
	at := 0
	var part func(levels int) api.Tree
	part = func(levels int) api.Tree {
		if levels == 0 {
			return none
		}
		x := leaf(names[at], value(at))
		at++
		x.Kids[0], x.Kids[1] = part(levels-1), part(levels-1)
		return x
	}
	return part(3)
}

// partAt is the part at a place of seven.
func partAt(x *api.Tree, at int) *api.Tree {
	var parts []*api.Tree
	var collect func(*api.Tree)
	collect = func(part *api.Tree) {
		if part.Kind != api.TreeNone {
			parts = append(parts, part)
		}
		for i := range part.Kids {
			collect(&part.Kids[i])
		}
	}
	collect(x)
	return parts[at]
}

// sevenTwins are two values with one digest for each name.
func sevenTwins(t testing.TB, w int) (of [7][2]string) {
	for at, name := range names {
		of[at][0], of[at][1] = twins(t, w, name)
	}
	return of
}

// TestLeftBeforeRight: a node before its left subtree, that before the right
// one, however deep the one and the other are.
func TestLeftBeforeRight(t *testing.T) {
	for w := 1; w <= 2; w++ {
		of := sevenTwins(t, w)
		p := seven(func(at int) string { return of[at][0] })
		for differ := 1; differ < 1<<7; differ++ {
			q := seven(func(at int) string { return of[at][differ>>at&1] })
			first := of[mathbits.TrailingZeros(uint(differ))]
			mustFind(t, fmt.Sprintf("nodes %07b", differ), w, p, q, valueBytes([]byte(first[0])), valueBytes([]byte(first[1])))
		}
	}
}

// TestTheFirstThatIsTold: the first node that is shown in both trees.
func TestTheFirstThatIsTold(t *testing.T) {
	t.Parallel()
	of := sevenTwins(t, 1)
	for darkP := range 1 << 7 {
		for darkQ := range 1 << 7 {
			if darkP*darkQ%7 != 0 && darkP != 0x7e { // some of them are enough
				continue
			}
			sides := [2]api.Tree{}
			for side, bits := range []int{darkP, darkQ} {
				sides[side] = seven(func(at int) string { return of[at][side] })
				for at := range 7 {
					if part := partAt(&sides[side], at); bits>>at&1 == 1 {
						part.Digest = valueSum(1, *part)
						part.Kind, part.Value = api.TreeDark, nil
					}
				}
			}
			at := mathbits.TrailingZeros(^uint(darkP | darkQ))
			what := fmt.Sprintf("dark nodes %07b and %07b", darkP, darkQ)
			if at >= 7 {
				mustTell(t, what, 1, sides[0], sides[1], api.ErrNone)
				continue
			}
			mustFind(t, what, 1, sides[0], sides[1], valueBytes([]byte(of[at][0])), valueBytes([]byte(of[at][1])))
		}
	}
}

// TestTheFirstBesideCuts: what a cut hides on either side is passed over.
func TestTheFirstBesideCuts(t *testing.T) {
	of := sevenTwins(t, 1)
	for hidden, shown := range map[int][]int{1: {4, 5, 6}, 2: {3, 4, 5, 6}, 3: {2, 4, 5, 6}, 4: {1, 2, 3}} {
		for _, at := range shown {
			for side := range 2 {
				p := seven(func(i int) string { return of[i][0] })
				q := seven(func(i int) string {
					if i == at || i == hidden {
						return of[i][1]
					}
					return of[i][0]
				})
				part := partAt([]*api.Tree{&p, &q}[side], hidden)
				*part = cut(digestOf(1, *part))
				mustFind(t, fmt.Sprintf("%s cut, %s shown", names[hidden], names[at]), 1, p, q, valueBytes([]byte(of[at][0])), valueBytes([]byte(of[at][1])))
			}
		}
	}
}

// TestDeepOnes: 64 levels may lie above a clash.
func TestDeepOnes(t *testing.T) {
	for w := 1; w <= 2; w++ {
		v1, v2 := twins(t, w, "")
		for side := range 2 {
			p, q := stacked(63, leaf("z", v1), side), stacked(63, leaf("z", v2), side)
			mustFind(t, "64 levels", w, p, q, valueBytes([]byte(v1)), valueBytes([]byte(v2)))
		}
	}
}

// full makes a tree of so many levels; value is asked for each node in the order
// of the keys.
func full(levels int, value func(at int) string) api.Tree {
	at := 0
	var part func(levels int) api.Tree
	part = func(levels int) api.Tree {
		if levels == 0 {
			return none
		}
		l := part(levels - 1)
		x := leaf(fmt.Sprintf("%06d", at), value(at))
		at++
		x.Kids[0], x.Kids[1] = l, part(levels-1)
		return x
	}
	return part(levels)
}

// TestLargeTrees: one value of 16383 differs.
func TestLargeTrees(t *testing.T) {
	t.Parallel()
	v1, v2 := twins(t, 2, "")
	p := full(14, func(int) string { return v1 })
	for _, other := range []int{0, 1, 5000, 8191, 16381, 16382} {
		q := full(14, func(at int) string {
			if at == other {
				return v2
			}
			return v1
		})
		a, b, err := clash.Find(2, p, q)
		if err != nil || !bytes.Equal(a, valueBytes([]byte(v1))) || !bytes.Equal(b, valueBytes([]byte(v2))) {
			t.Errorf("the value %d: %q, %q, %v", other, a, b, err)
		}
		mustCollide(t, 2, a, b)
	}
	if _, _, err := clash.Find(32, p, p); err != api.ErrNone {
		t.Error(err)
	}
}

// Errors.

// stacked is a chain of so many nodes above x, each with x on that side.
func stacked(n int, x api.Tree, side int) api.Tree {
	for range n {
		kids := []api.Tree{none, none}
		kids[side] = x
		x = api.Tree{Kind: api.TreeNode, Key: []byte("s"), Kids: kids}
	}
	return x
}

// endless is a tree that contains itself.
func endless() api.Tree {
	kids := make([]api.Tree, 2)
	kids[1] = api.Tree{Kind: api.TreeNode, Key: []byte("a"), Kids: kids}
	return kids[1]
}

// tooDeep are trees of more than 64 levels.
func tooDeep(w int) []api.Tree {
	return []api.Tree{
		stacked(65, none, 0), stacked(65, none, 1), stacked(65, cut(sum(w, nil)), 1),
		stacked(64, dark(none, "z", sum(w, nil), none), 0), stacked(65, api.Tree{Kind: 4}, 1),
		stacked(64, api.Tree{Kids: []api.Tree{none}}, 0), endless(),
	}
}

// malformed are trees with a part that is not as defined, or has a digest of
// another length than w.
func malformed(w int) []api.Tree {
	two, d := []api.Tree{none, none}, sum(w, nil)
	parts := []api.Tree{
		{Kind: -1}, {Kind: 4}, {Kind: 257}, {Key: []byte("a")}, {Value: []byte("a")}, {Digest: d}, {Kids: two},
		{Kind: api.TreeNode}, {Kind: api.TreeNode, Kids: two[:1]}, {Kind: api.TreeNode, Kids: make([]api.Tree, 3)},
		{Kind: api.TreeNode, Digest: d, Kids: two}, leaf(strings.Repeat("a", 81), ""), leaf("a", strings.Repeat("a", 1025)),
		{Kind: api.TreeDark, Value: []byte("a"), Digest: d, Kids: two}, {Kind: api.TreeDark, Digest: d, Kids: two[:1]},
		dark(none, strings.Repeat("a", 81), d, none), {Kind: api.TreeCut, Key: []byte("a"), Digest: d},
		{Kind: api.TreeCut, Value: []byte("a"), Digest: d}, {Kind: api.TreeCut, Digest: d, Kids: two},
	}
	return append(parts, otherDigests(w)...)
}

// otherDigests hold a digest of another length than w.
func otherDigests(w int) []api.Tree {
	var parts []api.Tree
	for _, n := range []int{0, w - 1, w + 1, 2 * w, 256 + w} {
		if n != w {
			parts = append(parts, cut(make([]byte, n)), dark(none, "a", make([]byte, n), none))
		}
	}
	return parts
}

// within are trees that hold a part somewhere.
func within(w int, part api.Tree) []api.Tree {
	return []api.Tree{
		part, node(part, "b", "", none), node(none, "b", "", part), dark(part, "b", sum(w, nil), none),
		node(cut(sum(w, nil)), "b", "", dark(none, "c", sum(w, nil), part)), stacked(62, part, 0), stacked(62, part, 1),
	}
}

// fine are trees that have a digest of the width w.
func fine(w int) []api.Tree {
	return []api.Tree{none, cut(sum(w, []byte{3})), cut(sum(w, nil)), leaf("a", "1"), dark(leaf("a", "1"), "b", sum(w, nil), cut(sum(w, nil)))}
}

// TestTreesWithoutDigest: on either side, beside trees with one, and beside
// themselves.
func TestTreesWithoutDigest(t *testing.T) {
	for _, w := range []int{1, 2, 31, 32} {
		for _, part := range malformed(w) {
			for _, bad := range within(w, part) {
				for _, x := range append(fine(w), bad) {
					mustTell(t, "a tree that is not well-formed", w, bad, x, api.ErrForm)
				}
			}
		}
		for _, bad := range tooDeep(w) {
			for _, x := range append(fine(w), bad) {
				mustTell(t, "a tree that is too deep", w, bad, x, api.ErrDepth)
			}
		}
	}
}

// TestTheErrorOfTheFirstTree goes before that of the second one.
func TestTheErrorOfTheFirstTree(t *testing.T) {
	for _, w := range []int{1, 32} {
		for _, part := range malformed(w) {
			for _, bad := range within(w, part) {
				for _, deep := range tooDeep(w) {
					_, _, errForm := mustAgree(t, w, bad, deep)
					_, _, errDepth := mustAgree(t, w, deep, bad)
					if errForm != api.ErrForm || errDepth != api.ErrDepth {
						t.Errorf("width %d, %s and a deep tree: %v, and %v if exchanged", w, told(bad, 4), errForm, errDepth)
					}
				}
			}
		}
	}
}

// TestOtherWidths: the width goes before all else.
func TestOtherWidths(t *testing.T) {
	for _, w := range badWidths {
		of := min(max(w, 1), 32)
		trees := slices.Concat(fine(of), tooDeep(of)[:2], []api.Tree{endless(), {Kind: 4}, cut(nil)})
		for _, n := range []int{31, 33, 34} {
			trees = append(trees, cut(make([]byte, n)))
		}
		for _, p := range trees {
			for _, q := range trees {
				mustTell(t, "another width", w, p, q, api.ErrArg)
			}
		}
	}
}

// TestOtherDigests: two trees that have nothing to do with each other, in which
// things differ that would be found if their digests were equal, or nothing is.
func TestOtherDigests(t *testing.T) {
	v1, v2 := twins(t, 2, "")
	for what, c := range map[string][2]api.Tree{
		"values with one digest":          {node(none, "a", v1, leaf("b", "1")), node(none, "a", v2, leaf("b", "2"))},
		"values with one digest below":    {node(leaf("a", v1), "b", "1", none), node(leaf("a", v2), "b", "2", none)},
		"an empty tree and a node":        {none, leaf("a", v1)},
		"an empty tree and a dark node":   {none, dark(none, "a", sum(2, nil), none)},
		"two cuts":                        {cut([]byte{1, 2}), cut([]byte{1, 3})},
		"two cuts, the first byte":        {cut([]byte{1, 2}), cut([]byte{0, 2})},
		"the same bytes in another order": {cut([]byte{1, 2}), cut([]byte{2, 1})},
		"cuts below":                      {node(cut([]byte{1, 2}), "a", "", none), node(cut([]byte{1, 3}), "a", "", none)},
		"subtrees exchanged":              {node(leaf("a", ""), "b", "", leaf("c", "")), node(leaf("c", ""), "b", "", leaf("a", ""))},
		"the shape":                       {node(leaf("a", "1"), "b", "2", none), node(none, "a", "1", leaf("b", "2"))},
		"a tree and a cut":                {leaf("a", v1), cut([]byte{1, 2})},
	} {
		mustTell(t, what, 2, c[0], c[1], api.ErrRoot)
	}
}

func TestAllWidths(t *testing.T) {
	for w := 1; w <= 32; w++ {
		x := node(leaf("a", "1"), "b", "2", dark(none, "c", sum(w, nil), cut(sum(w, []byte{1}))))
		root := digestOf(w, x)
		mustTell(t, "a tree and itself", w, x, x, api.ErrNone)
		mustTell(t, "a tree and a cut of it", w, x, cut(root), api.ErrNone)
		for i := range 8 * w {
			other := slices.Clone(root)
			other[i/8] ^= 1 << (i % 8)
			mustTell(t, "a tree and another cut", w, x, cut(other), api.ErrRoot)
		}
	}
}

// flaws are the errors of what withFlaws may do amiss, the first one first.
var flaws = []api.Code{
	api.ErrArg, api.ErrDepth, api.ErrForm, api.ErrForm, api.ErrDepth, api.ErrForm, api.ErrForm, api.ErrRoot, api.ErrNone,
}

// withFlaws makes a call that is amiss in all ways whose bit is set, of values
// with one digest for the width 1; the lowest bit is the first one of flaws.
func withFlaws(bits int, values [2]string) (w int, trees [2]api.Tree) {
	has := func(flaw int) bool { return bits>>flaw&1 == 1 }
	w = 1
	if has(0) {
		w = 33
	}
	for side := range 2 {
		var below, behind api.Tree
		if has(3 + 3*side) {
			below = cut(make([]byte, 2))
		}
		if has(1 + 3*side) {
			below = stacked(64, below, 1)
		}
		if has(2 + 3*side) {
			behind.Digest = []byte{8}
		}
		key, value := "k", values[side]
		if side == 1 && has(7) {
			key = "other"
		}
		if has(8) {
			value = values[0]
		}
		trees[side] = node(below, key, value, behind)
	}
	return w, trees
}

// TestFirstErrors: where several things are amiss, the first one counts.
func TestFirstErrors(t *testing.T) {
	var values [2]string
	values[0], values[1] = twins(t, 1, "")
	for bits := range 1 << len(flaws) {
		w, trees := withFlaws(bits, values)
		_, _, err := mustAgree(t, w, trees[0], trees[1])
		if bits == 0 && err != nil || bits != 0 && err != flaws[mathbits.TrailingZeros(uint(bits))] {
			t.Errorf("with the flaws %09b: %v", bits, err)
		}
	}
}

// P9.2

func roomyBytes(b []byte) []byte {
	return slices.Concat(b, bytes.Repeat([]byte{0xee}, 50))[:len(b)]
}

// roomy returns a tree whose byte strings and Kids lie within longer arrays: a
// function that appends to one of them would write into what stands behind it.
func roomy(p api.Tree) api.Tree {
	p.Key, p.Value, p.Digest = roomyBytes(p.Key), roomyBytes(p.Value), roomyBytes(p.Digest)
	kids := append(slices.Clone(p.Kids), leaf("y", "z"))
	p.Kids = kids[:len(p.Kids)]
	for i := range p.Kids {
		p.Kids[i] = roomy(p.Kids[i])
	}
	return p
}

// memory is all memory of a tree's bytes, what stands behind them among it.
func memory(p api.Tree) [][]byte {
	var out [][]byte
	var collect func(api.Tree)
	collect = func(part api.Tree) {
		for _, b := range [][]byte{part.Key, part.Value, part.Digest} {
			out = append(out, b[:cap(b)])
		}
		for _, kid := range part.Kids[:cap(part.Kids)] {
			collect(kid)
		}
	}
	collect(p)
	return out
}

// whole tells all that a tree's memory holds.
func whole(p api.Tree) string {
	var shape func(api.Tree) string
	shape = func(part api.Tree) string {
		out := fmt.Sprint(part.Kind, len(part.Key), len(part.Value), len(part.Digest), len(part.Kids))
		for _, kid := range part.Kids[:cap(part.Kids)] {
			out += "(" + shape(kid) + ")"
		}
		return out
	}
	return fmt.Sprintf("%x %s", memory(p), shape(p))
}

func flip(b []byte) {
	b = b[:cap(b)]
	for i := range b {
		b[i] = ^b[i]
	}
}

// call is what Find is asked.
type call struct {
	w    int
	p, q api.Tree
}

// roomyCalls are arguments of all kinds, each with memory of its own.
func roomyCalls(t testing.TB) []call {
	var out []call
	for w := 1; w <= 2; w++ {
		at := places(w)
		for i, c := range clashes(t, w) {
			put := at[i%(len(at)-1)]
			out = append(out, call{w, roomy(c.p), roomy(c.q)}, call{w, roomy(put.p(c.p)), roomy(put.q(c.q))},
				call{w, roomy(c.p), roomy(cut(digestOf(w, c.p)))}, call{w, roomy(c.p), roomy(c.p)})
		}
	}
	v1, v2 := twins(t, 1, "")
	for bits := range 1 << len(flaws) {
		w, trees := withFlaws(bits, [2]string{v1, v2})
		if bits%5 == 0 {
			out = append(out, call{w, roomy(trees[0]), roomy(trees[1])})
		}
	}
	return out
}

func TestArgumentsStay(t *testing.T) {
	for _, c := range roomyCalls(t) {
		p, q := whole(c.p), whole(c.q)
		clash.Find(c.w, c.p, c.q)
		clash.Find(c.w, c.q, c.p)
		if whole(c.p) != p || whole(c.q) != q {
			t.Errorf("Find(%d) in %s and %s modified them", c.w, told(c.p, 4), told(c.q, 4))
		}
	}
}

// TestResultsAreFresh: what is done to one does not show in the arguments, in
// the other one, or in those of another call.
func TestResultsAreFresh(t *testing.T) {
	for _, c := range roomyCalls(t) {
		p, q := whole(c.p), whole(c.q)
		a, b, err := clash.Find(c.w, c.p, c.q)
		otherA, otherB, _ := clash.Find(c.w, c.p, c.q)
		keptA, keptB := bytes.Clone(a), bytes.Clone(b)
		flip(a)
		if !bytes.Equal(b, keptB) {
			t.Errorf("Find(%d) in %s and %s: the two share memory", c.w, told(c.p, 4), told(c.q, 4))
		}
		flip(b)
		againA, againB, againErr := clash.Find(c.w, c.p, c.q)
		if whole(c.p) != p || whole(c.q) != q || !bytes.Equal(otherA, keptA) || !bytes.Equal(otherB, keptB) ||
			!bytes.Equal(againA, keptA) || !bytes.Equal(againB, keptB) || againErr != err {
			t.Errorf("Find(%d) in %s and %s: what was done to the result shows elsewhere", c.w, told(c.p, 4), told(c.q, 4))
		}
	}
}

func TestResultsOutliveTheirArguments(t *testing.T) {
	for _, c := range roomyCalls(t) {
		a, b, _ := clash.Find(c.w, c.p, c.q)
		keptA, keptB := bytes.Clone(a), bytes.Clone(b)
		for _, part := range append(memory(c.p), memory(c.q)...) {
			flip(part)
		}
		if !bytes.Equal(a, keptA) || !bytes.Equal(b, keptB) {
			t.Errorf("Find(%d): what was done to the arguments shows in the result", c.w)
		}
	}
}

// TestTreesThatShareMemory: both trees, and both Kids of one, may be the same.
func TestTreesThatShareMemory(t *testing.T) {
	v1, v2 := twins(t, 1, "")
	shared := roomy(node(leaf("a", "1"), "b", "2", cut([]byte{7})))
	kids := []api.Tree{shared, shared}
	p := api.Tree{Kind: api.TreeNode, Key: shared.Key, Value: []byte(v1), Kids: kids}
	q := api.Tree{Kind: api.TreeNode, Key: shared.Key, Value: []byte(v2), Kids: kids}
	before := whole(shared)
	mustFind(t, "trees with the same Kids", 1, p, q, valueBytes([]byte(v1)), valueBytes([]byte(v2)))
	mustTell(t, "a tree and itself", 1, p, p, api.ErrNone)
	if whole(shared) != before {
		t.Error("the memory that both share was modified")
	}
}

// TestNothingIsRetained changes arguments after they were seen, each of their
// byte strings in turn, and takes the change back.
func TestNothingIsRetained(t *testing.T) {
	v1, v2 := twins(t, 1, "v")
	x := node(leaf("a", v1), "b", "2", dark(none, "c", []byte{9}, cut([]byte{7})))
	p, q := roomy(x), roomy(x)
	for what, b := range map[string][]byte{
		"key": q.Kids[0].Key, "value": q.Value, "dark digest": q.Kids[1].Digest, "cut": q.Kids[1].Kids[1].Digest,
	} {
		old := b[0]
		mustTell(t, "one tree twice", 1, p, q, api.ErrNone)
		for b[0]++; b[0] != old; b[0]++ {
			mustAgree(t, 1, p, q)
		}
		mustTell(t, "the "+what+" as it was", 1, p, q, api.ErrNone)
	}
	q.Kids[0].Value = []byte(v2)
	mustFind(t, "another value", 1, p, q, valueBytes([]byte(v1)), valueBytes([]byte(v2)))
	p.Kids[0].Value = []byte(v2)
	mustTell(t, "the same other value", 1, p, q, api.ErrNone)
	q.Kids[1].Kind = 4
	mustTell(t, "another kind", 1, p, q, api.ErrForm)
}

// P9.3

// kinds counts what was found, by the kinds of the two byte strings, and the
// errors.
type kinds map[string]int

func (k kinds) note(a, b []byte, err error) {
	if err != nil {
		k[fmt.Sprint(err)]++
		return
	}
	k[fmt.Sprint(min(a[0], b[0]), max(a[0], b[0]))]++
}

// mustHaveMet wants each of those to have come, and so often.
func (k kinds) mustHaveMet(t *testing.T, least int, wanted ...string) {
	t.Helper()
	for _, want := range wanted {
		if k[want] < least {
			t.Errorf("the trees are too much alike: %v", k)
		}
	}
}

// The kinds of what is found.
const (
	twoValues, twoPairs, twoNodes, nodeAndNone = "0 0", "1 1", "2 2", "2 3"
)

// liar changes trees without changing their digests for the width 1. What it
// does is drawn: draw answers a number less than n.
type liar struct {
	t    testing.TB
	pool map[byte][]api.Tree
	draw func(n int) int
}

// newLiar has some trees in stock for each digest.
func newLiar(t testing.TB, draw func(n int) int) *liar {
	l := &liar{t: t, pool: map[byte][]api.Tree{}, draw: draw}
	for i := range 600 {
		key := string([]byte{byte('a' + i%26)}) + some(i/26)
		for _, x := range []api.Tree{leaf(key, some(i)), dark(none, key, []byte{byte(i)}, none), node(cut([]byte{byte(i)}), key, "", none)} {
			d := digestOf(1, x)[0]
			l.pool[d] = append(l.pool[d], x)
		}
	}
	return l
}

// other is a made byte string that another one with that digest begins like.
func (l *liar) other(start string, preimage func(text string) []byte, want []byte) string {
	first := l.draw(1 << 16)
	for i := range 1 << 16 {
		if text := start + some(first+i); bytes.Equal(sum(1, preimage(text)), want) {
			return text
		}
	}
	l.t.Fatal("no collision was met")
	return ""
}

// altered returns a tree with the digest of x.
func (l *liar) altered(x api.Tree) api.Tree {
	d := digestOf(1, x)
	switch l.draw(12) {
	case 0:
		return cut(d)
	case 1:
		if pool := l.pool[d[0]]; len(pool) > 0 {
			return pool[l.draw(len(pool))]
		}
	}
	if x.Kind == api.TreeNone || x.Kind == api.TreeCut {
		return x
	}
	x.Kids = []api.Tree{l.altered(x.Kids[0]), l.altered(x.Kids[1])}
	switch l.draw(8) {
	case 0:
		return dark(x.Kids[0], string(x.Key), valueSum(1, x), x.Kids[1])
	case 1:
		x.Key = []byte(l.other(string(x.Key[:min(len(x.Key), 60)]), func(key string) []byte {
			return slices.Concat([]byte{1, byte(len(key))}, []byte(key), valueSum(1, x))
		}, sum(1, pairBytes(1, x))))
	case 2:
		if x.Kind == api.TreeNode {
			x.Value = []byte(l.other("v", func(value string) []byte { return valueBytes([]byte(value)) }, valueSum(1, x)))
		}
	case 3:
		x = node(x.Kids[0], string(x.Key), l.other("w", func(value string) []byte {
			return pairBytes(1, leaf(string(x.Key), value))
		}, sum(1, pairBytes(1, x))), x.Kids[1])
	}
	return x
}

// drawn is a balanced tree of some of the letters.
func drawn(t testing.TB, draw func(n int) int) api.Tree {
	t.Helper()
	var x api.Tree
	for range draw(9) {
		var err error
		if x, err = avl.Put(x, []byte{byte('a' + draw(26))}, []byte(some(draw(100)))); err != nil {
			t.Fatal(err)
		}
	}
	return x
}

// TestLies: of two trees made out of one, in whatever way they were changed.
func TestLies(t *testing.T) {
	t.Parallel()
	draw := rand.New(rand.NewSource(1)).Intn
	l, met := newLiar(t, draw), kinds{}
	for range 4000 {
		x := drawn(t, draw)
		p, q := l.altered(x), l.altered(x)
		met.note(mustAgree(t, 1, p, q))
		met.note(mustAgree(t, 1, x, l.altered(p)))
	}
	met.mustHaveMet(t, 100, twoValues, twoPairs, twoNodes, nodeAndNone, fmt.Sprint(api.ErrNone))
}

// partials are all trees of so many nodes, dark or not, with those keys in any
// order and those values, and cuts or nothing at the ends.
func partials(n int, keys, values []string) []api.Tree {
	if n == 0 {
		return []api.Tree{none, cut([]byte{8}), cut([]byte{9})}
	}
	var out []api.Tree
	for i := range n {
		for _, l := range partials(i, keys, values) {
			for _, r := range partials(n-1-i, keys, values) {
				for _, key := range keys {
					out = append(out, dark(l, key, []byte{1}, r))
					for _, value := range values {
						out = append(out, node(l, key, value, r), dark(l, key, sum(1, valueBytes([]byte(value))), r))
					}
				}
			}
		}
	}
	return out
}

// byDigest are trees of up to two nodes, those with one digest together. Among
// their keys and their values are twins.
func byDigest(t testing.TB) map[byte][]api.Tree {
	t.Helper()
	v1, v2 := twins(t, 1, "")
	k1, k2 := keyTwins(t, 1, v1)
	out := map[byte][]api.Tree{}
	for n := range 3 {
		for _, x := range partials(n, []string{"", k1, k2}, []string{"", v1, v2}) {
			d := digestOf(1, x)[0]
			out[d] = append(out[d], x)
		}
	}
	return out
}

func TestAllSmallTrees(t *testing.T) {
	t.Parallel()
	met := kinds{}
	for _, trees := range byDigest(t) {
		for i, p := range trees {
			// Each with itself, with its neighbour, and with few that are further off.
			for j := i; j < len(trees); j += 1 + 2*(j-i) {
				met.note(mustAgreeInOrder(t, 1, p, trees[j]))
			}
		}
	}
	met.mustHaveMet(t, 20, twoValues, twoPairs, twoNodes, fmt.Sprint(api.ErrNone))
}

func samePairs(a, b []api.Pair) bool {
	return slices.EqualFunc(a, b, func(p, q api.Pair) bool {
		return bytes.Equal(p.Key, q.Key) && bytes.Equal(p.Value, q.Value)
	})
}

// witness is a proof that was accepted, and what it shows.
type witness struct {
	p     api.Tree
	shown []api.Pair
}

// accepted are those that are accepted for the range under the root.
func accepted(t testing.TB, root []byte, s api.Span, trees []api.Tree) []witness {
	t.Helper()
	var out []witness
	for _, p := range trees {
		if shown, err := check.Check(len(root), root, s, p); err == nil {
			out = append(out, witness{p, shown})
		}
	}
	return out
}

// mustContradict wants something to be found in two proofs that were accepted,
// if they show different pairs. It reports whether they do.
func mustContradict(t testing.TB, w int, a, b witness) bool {
	t.Helper()
	_, _, err := mustAgreeInOrder(t, w, a.p, b.p)
	differ := !samePairs(a.shown, b.shown)
	if differ && err != nil || err != nil && err != api.ErrNone {
		t.Errorf("%s shows %q, %s shows %q: %v", told(a.p, 4), a.shown, told(b.p, 4), b.shown, err)
	}
	return differ
}

// TestAcceptedSmallTrees: proofs that anybody could make.
func TestAcceptedSmallTrees(t *testing.T) {
	t.Parallel()
	spans := []api.Span{
		{Open: true}, {From: []byte("k"), Open: true}, {To: []byte("k")}, {From: []byte("k5"), To: []byte("l")},
		scan.Point(nil), scan.Point([]byte("k1")), {From: []byte("b"), To: []byte("a")},
	}
	differ := 0
	for d, trees := range byDigest(t) {
		for _, s := range spans {
			list := accepted(t, []byte{d}, s, trees)
			for i := range list {
				for j := i + 1; j < len(list); j += j - i {
					if mustContradict(t, 1, list[i], list[j]) {
						differ++
					}
				}
			}
		}
	}
	if differ < 1000 {
		t.Errorf("only %d pairs of proofs differ", differ)
	}
}

// TestAcceptedLies: the proof of a tree's range, and what liars make of it.
func TestAcceptedLies(t *testing.T) {
	t.Parallel()
	draw := rand.New(rand.NewSource(2)).Intn
	l, differ := newLiar(t, draw), 0
	for range 700 {
		x := drawn(t, draw)
		s := api.Span{From: []byte{byte('a' + draw(26))}, To: []byte{byte('a' + draw(27))}, Open: draw(4) == 0}
		p, err := proof.Prove(1, x, s)
		if err != nil {
			t.Fatal(err)
		}
		trees := []api.Tree{p, x}
		for range 6 {
			trees = append(trees, l.altered(p), l.altered(x))
		}
		list := accepted(t, digestOf(1, x), s, trees)
		if len(list) < 2 {
			t.Fatalf("the proof of %s is not accepted", told(x, 4))
		}
		for i := range list {
			for j := range i {
				if mustContradict(t, 1, list[i], list[j]) {
					differ++
				}
			}
		}
	}
	if differ < 1000 {
		t.Errorf("only %d pairs of proofs differ", differ)
	}
}

// mustBeCaught wants a lie to be accepted, to show those values alone, and to be
// found out beside the proof of x.
func mustBeCaught(t *testing.T, what string, x api.Tree, s api.Span, lie api.Tree, values string) {
	t.Helper()
	p, err := proof.Prove(1, x, s)
	if err != nil {
		t.Fatal(err)
	}
	list := accepted(t, digestOf(1, x), s, []api.Tree{p, lie})
	if len(list) != 2 {
		t.Fatalf("%s: %d of the two are accepted", what, len(list))
	}
	shown := ""
	for _, pair := range list[1].shown {
		shown += string(pair.Value)
	}
	if shown != values || !mustContradict(t, 1, list[0], list[1]) {
		t.Errorf("%s: the lie shows %q, want %q", what, shown, values)
	}
}

// TestLiesOfAllKinds: another value, a pair that is missing, a pair too many, a
// pair under another key, a tree that is empty.
func TestLiesOfAllKinds(t *testing.T) {
	x := node(leaf("b", "1"), "d", "2", leaf("f", "3"))
	all, c := api.Span{Open: true}, scan.Point([]byte("c"))
	root := digestOf(1, x)
	lie := func(make maker[api.Tree]) api.Tree {
		for i := range 1 << 16 {
			if p := make(i); bytes.Equal(digestOf(1, p), root) {
				return p
			}
		}
		t.Fatal("no lie was met")
		return none
	}
	v := lie(func(i int) api.Tree { return node(leaf("b", "1"), "d", "x"+some(i), leaf("f", "3")) })
	mustBeCaught(t, "another value", x, all, v, "1"+string(v.Value)+"3")
	mustBeCaught(t, "another value", x, scan.Point([]byte("d")), v, string(v.Value))
	mustBeCaught(t, "a pair is missing", x, all, lie(func(i int) api.Tree {
		return node(leaf("b"+some(i), "1"), "d"+some(i), "2", none)
	}), "12")
	mustBeCaught(t, "a pair is missing", x, scan.Point([]byte("d")), lie(func(i int) api.Tree {
		return dark(cut(sum(1, []byte(some(i)))), "c\xff", []byte{byte(i >> 8)}, dark(none, "e", []byte{byte(i)}, none))
	}), "")
	mustBeCaught(t, "a pair too many", x, c, lie(func(i int) api.Tree {
		return dark(node(leaf("b", "1"), "c", "lie", none), "d"+some(i), []byte{7}, leaf("f"+some(i), "3"))
	}), "lie")
	mustBeCaught(t, "another key", x, all, lie(func(i int) api.Tree { return node(leaf("b", "1"), "c"+some(i), "2", leaf("f", "3")) }), "123")
	empty := lieOfNothing(t)
	mustBeCaught(t, "a tree that is empty", empty, all, none, "")
	mustBeCaught(t, "a tree that is not", none, all, empty, string(empty.Value))
}

// lieOfNothing is a node with the digest of the empty tree.
func lieOfNothing(t *testing.T) api.Tree {
	return met(t, 1, "", rootBytes, func(int) api.Tree { return none }, func(i int) api.Tree { return leaf("a", some(i)) }).q
}

// TestHonestProofs: those of one tree do not contradict each other, of whatever
// width and for whatever ranges.
func TestHonestProofs(t *testing.T) {
	t.Parallel()
	draw := rand.New(rand.NewSource(3)).Intn
	for i := range 600 {
		w, x := 1+i%32, drawn(t, draw)
		trees := []api.Tree{x}
		for range 3 {
			s := api.Span{From: []byte{byte('a' + draw(26))}, To: []byte{byte('a' + draw(27))}, Open: draw(4) == 0}
			p, err := proof.Prove(w, x, s)
			if err != nil {
				t.Fatal(err)
			}
			trees = append(trees, p)
		}
		for _, p := range trees {
			for _, q := range trees {
				mustTell(t, "proofs of one tree", w, p, q, api.ErrNone)
			}
		}
	}
}

// Any trees.

// treeOf makes a partial tree of any bytes, mostly one that is well-formed.
func treeOf(w int, b []byte) api.Tree {
	next := func() byte {
		if len(b) == 0 {
			return 0
		}
		c := b[0]
		b = b[1:]
		return c
	}
	var part func(depth int) api.Tree
	part = func(depth int) api.Tree {
		c := next()
		switch {
		case depth == 6 || c%8 == 1:
			return cut(sum(w, []byte{c >> 4}))
		case c%8 == 0:
			return none
		case c == 0xfa:
			return api.Tree{Kind: int(next()), Kids: []api.Tree{part(depth + 1)}}
		case c%8 < 5:
			return node(part(depth+1), some(int(c>>4)), some(int(next())), part(depth+1))
		}
		return dark(part(depth+1), some(int(c>>4)), sum(w, []byte{next()}), part(depth+1))
	}
	return part(0)
}

// FuzzFind holds trees of any bytes against the document's words, and a tree
// against what a liar makes of it.
func FuzzFind(f *testing.F) {
	f.Add(1, []byte("\x12\x22\x00\x01\x32"), []byte("\x12\x22\x00\x01\x33"))
	f.Add(2, []byte{}, []byte{0x01})
	f.Add(0, []byte("\xfa\x12"), []byte("\xff"))
	f.Add(33, []byte("\x16\x17\x11"), []byte("c"))
	f.Fuzz(func(t *testing.T, w int, a, b []byte) {
		of := min(max(w, 1), 32)
		p, q := treeOf(of, a), treeOf(of, b)
		mustAgree(t, w, p, q)
		if _, err := tree.Digest(1, p); err != nil {
			return
		}
		draw := func(n int) int {
			if len(b) == 0 {
				return n - 1
			}
			c := int(b[0])
			b = b[1:]
			return c % n
		}
		mustAgree(t, 1, p, newLiar(t, draw).altered(p))
	})
}
