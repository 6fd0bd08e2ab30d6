package chunk_test

import (
	"bytes"
	"crypto/sha256"
	"errors"
	"fmt"
	"math"
	"slices"
	"strings"
	"testing"

	"heartwood/api"
	"heartwood/avl"
	"heartwood/chunk"
	"heartwood/tree"
)

// badWidths are those outside of 1 to 32, the ones next to it among them.
var badWidths = []int{0, -1, -2, -32, -33, math.MinInt, 33, 34, 64, 256 + 1, 1<<16 + 1, 1<<32 + 1, math.MaxInt}

// badLevels are those outside of 0 to 64, the ones next to it among them.
var badLevels = []int{-1, -2, -64, -65, math.MinInt, 65, 66, 128, 256, 256 + 1, 1<<16 + 1, 1<<32 + 1, math.MaxInt}

var fewWidths = []int{1, 2, 20, 31, 32}

var none = api.Tree{}

func node(l api.Tree, key, value string, r api.Tree) api.Tree {
	return api.Tree{Kind: api.TreeNode, Key: []byte(key), Value: []byte(value), Kids: []api.Tree{l, r}}
}

func dark(l api.Tree, key string, digest []byte, r api.Tree) api.Tree {
	return api.Tree{Kind: api.TreeDark, Key: []byte(key), Digest: digest, Kids: []api.Tree{l, r}}
}

func cut(digest []byte) api.Tree { return api.Tree{Kind: api.TreeCut, Digest: digest} }

func leaf(key string) api.Tree { return node(none, key, "v"+key, none) }

// filled returns n bytes without a short period, so that a mixed-up order shows.
func filled(n int, seed uint32) []byte {
	out := make([]byte, n)
	x := seed*2654435761 + 1
	for i := range out {
		x = x*1664525 + 1013904223
		out[i] = byte(x >> 24)
	}
	return out
}

// The calls by the document's words.

func sum(w int, pieces ...[]byte) []byte {
	d := sha256.Sum256(slices.Concat(pieces...))
	return d[:w]
}

// digestOf is the digest of a tree that has one.
func digestOf(w int, x api.Tree) []byte {
	switch x.Kind {
	case api.TreeNone:
		return sum(w, []byte{3})
	case api.TreeCut:
		return x.Digest
	}
	value := x.Digest
	if x.Kind == api.TreeNode {
		value = sum(w, []byte{0}, x.Value)
	}
	pair := sum(w, []byte{1, byte(len(x.Key))}, x.Key, value)
	return sum(w, []byte{2}, digestOf(w, x.Kids[0]), pair, digestOf(w, x.Kids[1]))
}

// cutTo is a TreeCut with the digest of a tree.
func cutTo(w int, x api.Tree) api.Tree { return cut(digestOf(w, x)) }

// A way tells, from the root on, to which side it goes: l or r.

// at is what a way leads to.
func at(x api.Tree, way string) api.Tree {
	for i := range len(way) {
		x = x.Kids[strings.IndexByte("lr", way[i])]
	}
	return x
}

// put is x with another tree where the way leads to, and leaves x as it is.
func put(x api.Tree, way string, y api.Tree) api.Tree {
	if way == "" {
		return y
	}
	x.Kids = slices.Clone(x.Kids)
	side := strings.IndexByte("lr", way[0])
	x.Kids[side] = put(x.Kids[side], way[1:], y)
	return x
}

// ways are those to all parts of a tree, in the order of the keys.
func ways(x api.Tree) []string {
	if len(x.Kids) != 2 {
		return []string{""}
	}
	var out []string
	for _, way := range ways(x.Kids[0]) {
		out = append(out, "l"+way)
	}
	out = append(out, "")
	for _, way := range ways(x.Kids[1]) {
		out = append(out, "r"+way)
	}
	return out
}

// waysTo are those to the parts of a kind.
func waysTo(x api.Tree, kind int) (out []string) {
	for _, way := range ways(x) {
		if at(x, way).Kind == kind {
			out = append(out, way)
		}
	}
	return out
}

func depthOf(x api.Tree) int {
	deepest := 0
	for _, kid := range x.Kids {
		deepest = max(deepest, 1+depthOf(kid))
	}
	return deepest
}

func isFull(x api.Tree) bool {
	return x.Kind != api.TreeDark && x.Kind != api.TreeCut && !slices.ContainsFunc(x.Kids, func(kid api.Tree) bool { return !isFull(kid) })
}

// cutUp is the head of a full tree at a level, and its parts.
func cutUp(w int, x api.Tree, n int) (head api.Tree, parts []api.Tree) {
	head = x
	for _, way := range ways(x) {
		if part := at(x, way); len(way) == n && part.Kind != api.TreeNone {
			head, parts = put(head, way, cutTo(w, part)), append(parts, part)
		}
	}
	return head, parts
}

// spelledCut is P11.1.
func spelledCut(w int, x api.Tree, n int) (head api.Tree, parts []api.Tree, err error) {
	if n < 0 || n > 64 || w < 1 || w > 32 {
		return none, nil, api.ErrArg
	}
	if _, err := tree.Digest(w, x); err != nil {
		return none, nil, err
	}
	if !isFull(x) {
		return none, nil, api.ErrForm
	}
	head, parts = cutUp(w, x, n)
	return head, parts, nil
}

// spelledCount is P11.1.
func spelledCount(head api.Tree) int {
	if tree.Check(head) != nil {
		return 0
	}
	return len(waysTo(head, api.TreeCut))
}

// spelledFits is P11.2.
func spelledFits(w int, head api.Tree, i int, part api.Tree) error {
	if w < 1 || w > 32 {
		return api.ErrArg
	}
	if err := tree.Check(head); err != nil {
		return err
	}
	if _, err := tree.Digest(w, part); err != nil {
		return err
	}
	if !isFull(part) || part.Kind == api.TreeNone {
		return api.ErrForm
	}
	cuts := waysTo(head, api.TreeCut)
	if i < 0 || i >= len(cuts) {
		return api.ErrNone
	}
	if !bytes.Equal(at(head, cuts[i]).Digest, digestOf(w, part)) {
		return api.ErrRoot
	}
	return nil
}

// spelledJoin is P11.3; where is the index of the part that does not fit, or -1.
func spelledJoin(w int, head api.Tree, parts []api.Tree) (x api.Tree, where int, err error) {
	if w < 1 || w > 32 {
		return none, -1, api.ErrArg
	}
	if err := tree.Check(head); err != nil {
		return none, -1, err
	}
	cuts := waysTo(head, api.TreeCut)
	if len(parts) != len(cuts) || len(waysTo(head, api.TreeDark)) > 0 {
		return none, -1, api.ErrForm
	}
	for i, part := range parts {
		switch err := spelledFits(w, head, i, part); err {
		case nil:
		case api.ErrRoot:
			return none, i, err
		default:
			return none, -1, err
		}
	}
	for i, part := range parts {
		head = put(head, cuts[i], part)
	}
	if depthOf(head) > 64 {
		return none, -1, api.ErrDepth
	}
	return head, -1, nil
}

// same compares trees by what they say: nil and empty are one.
func same(a, b api.Tree) bool {
	return a.Kind == b.Kind && bytes.Equal(a.Key, b.Key) && bytes.Equal(a.Value, b.Value) &&
		bytes.Equal(a.Digest, b.Digest) && slices.EqualFunc(a.Kids, b.Kids, same)
}

// told draws what lies within a few levels of a tree: a node in brackets with
// its key, a dark one with # before it, a TreeCut in square brackets.
func told(x api.Tree) string {
	var draw func(x api.Tree, levels int) string
	draw = func(x api.Tree, levels int) string {
		out := ""
		switch {
		case levels == 0:
			return ".."
		case x.Kind == api.TreeNone && len(x.Kids) == 0:
			return ""
		case x.Kind == api.TreeCut && len(x.Kids) == 0:
			return fmt.Sprintf("[%.8x]", x.Digest)
		case x.Kind == api.TreeDark:
			out = "#"
		case x.Kind != api.TreeNode:
			out = fmt.Sprint(x.Kind, "?")
		}
		out += fmt.Sprintf("%.10q", x.Key)
		if len(x.Kids) != 2 {
			return fmt.Sprintf("(%s with %d)", out, len(x.Kids))
		}
		return "(" + draw(x.Kids[0], levels-1) + out + draw(x.Kids[1], levels-1) + ")"
	}
	return draw(x, 6)
}

func toldAll(list []api.Tree) string {
	out := []string{}
	for _, x := range list[:min(len(list), 20)] {
		out = append(out, told(x))
	}
	return fmt.Sprintf("%d parts %s", len(list), strings.Join(out, " "))
}

// plain wants an error itself, a plain Code (or nil), and not one within a Spot.
func plain(t testing.TB, what string, err, want error) {
	t.Helper()
	var spot *api.Spot
	if err != want || errors.As(err, &spot) {
		t.Errorf("%s: %v (%T), want %v", what, err, err, want)
	}
	var code api.Code
	if want != nil && (!errors.Is(err, want) || !errors.As(err, &code) || code != want) {
		t.Errorf("%s: %v is no Code %v", what, err, want)
	}
}

// spotted wants an error that tells of ErrRoot at an index, and is not a Code.
func spotted(t testing.TB, what string, err error, index int) {
	t.Helper()
	var spot *api.Spot
	if !errors.As(err, &spot) || err != error(spot) || spot.At != index || spot.Err != error(api.ErrRoot) {
		t.Errorf("%s: %v (%T), want %v at %d", what, err, err, api.ErrRoot, index)
		return
	}
	var code api.Code
	if err == error(api.ErrRoot) || !errors.Is(err, api.ErrRoot) || !errors.As(err, &code) || code != api.ErrRoot {
		t.Errorf("%s: %v does not tell of %v", what, err, api.ErrRoot)
	}
}

// mustCut holds Cut against a head and parts.
func mustCut(t testing.TB, what string, w int, x api.Tree, n int, head api.Tree, parts []api.Tree) {
	t.Helper()
	gotHead, gotParts, err := chunk.Cut(w, x, n)
	if err != nil || !same(gotHead, head) || !slices.EqualFunc(gotParts, parts, same) {
		t.Errorf("Cut(%d, %s, %d) = %s, %s, %v, want %s, %s", w, what, n, told(gotHead), toldAll(gotParts), err, told(head), toldAll(parts))
	}
}

// mustNotCut wants the error alone.
func mustNotCut(t testing.TB, what string, w int, x api.Tree, n int, want error) {
	t.Helper()
	head, parts, err := chunk.Cut(w, x, n)
	plain(t, fmt.Sprintf("Cut(%d, %s, %d)", w, what, n), err, want)
	if !same(head, none) || len(parts) != 0 {
		t.Errorf("Cut(%d, %s, %d) = %s, %s beside %v", w, what, n, told(head), toldAll(parts), err)
	}
}

// mustAgreeOnCut holds Cut against the document's words.
func mustAgreeOnCut(t testing.TB, what string, w int, x api.Tree, n int) {
	t.Helper()
	head, parts, err := spelledCut(w, x, n)
	if err != nil {
		mustNotCut(t, what, w, x, n, err)
		return
	}
	mustCut(t, what, w, x, n, head, parts)
}

func mustCount(t testing.TB, what string, head api.Tree, want int) {
	t.Helper()
	if got := chunk.Count(head); got != want {
		t.Errorf("Count of %s (%s) = %d, want %d", what, told(head), got, want)
	}
}

func mustFit(t testing.TB, what string, w int, head api.Tree, i int, part api.Tree, want error) {
	t.Helper()
	err := chunk.Fits(w, head, i, part)
	if want != nil {
		plain(t, fmt.Sprintf("Fits(%d, .., %d, ..) of %s", w, i, what), err, want)
	} else if err != nil {
		t.Errorf("Fits(%d, %s, %d, %s) of %s: %v", w, told(head), i, told(part), what, err)
	}
}

func mustAgreeOnFits(t testing.TB, what string, w int, head api.Tree, i int, part api.Tree) {
	t.Helper()
	mustFit(t, what, w, head, i, part, spelledFits(w, head, i, part))
}

func mustJoin(t testing.TB, what string, w int, head api.Tree, parts []api.Tree, want api.Tree) {
	t.Helper()
	got, err := chunk.Join(w, head, parts)
	if err != nil || !same(got, want) {
		t.Errorf("Join(%d, %s, %s) of %s = %s, %v, want %s", w, told(head), toldAll(parts), what, told(got), err, told(want))
	}
}

// mustNotJoin wants the plain Code alone.
func mustNotJoin(t testing.TB, what string, w int, head api.Tree, parts []api.Tree, want error) {
	t.Helper()
	got, err := chunk.Join(w, head, parts)
	plain(t, fmt.Sprintf("Join(%d, ..) of %s", w, what), err, want)
	if !same(got, none) {
		t.Errorf("Join(%d, ..) of %s = %s beside %v", w, what, told(got), err)
	}
}

// mustMiss wants ErrRoot at an index alone.
func mustMiss(t testing.TB, what string, w int, head api.Tree, parts []api.Tree, index int) {
	t.Helper()
	got, err := chunk.Join(w, head, parts)
	spotted(t, fmt.Sprintf("Join(%d, ..) of %s", w, what), err, index)
	if !same(got, none) {
		t.Errorf("Join(%d, ..) of %s = %s beside %v", w, what, told(got), err)
	}
}

// mustAgreeOnJoin holds Join against the document's words, and a tree that it
// returns against the digest of the head.
func mustAgreeOnJoin(t testing.TB, what string, w int, head api.Tree, parts []api.Tree) error {
	t.Helper()
	want, where, err := spelledJoin(w, head, parts)
	switch {
	case where >= 0:
		mustMiss(t, what, w, head, parts, where)
	case err != nil:
		mustNotJoin(t, what, w, head, parts, err)
	default:
		mustJoin(t, what, w, head, parts, want)
		mustHaveTheDigest(t, what, w, head, parts)
	}
	return err
}

// mustHaveTheDigest wants of a tree that Join returns the digest of the head.
func mustHaveTheDigest(t testing.TB, what string, w int, head api.Tree, parts []api.Tree) {
	t.Helper()
	joined, err := chunk.Join(w, head, parts)
	a, errA := tree.Digest(w, joined)
	b, errB := tree.Digest(w, head)
	if err != nil || errA != nil || errB != nil || !bytes.Equal(a, b) {
		t.Errorf("%s joined: %x, %v, %v, but the head has %x, %v", what, a, errA, err, b, errB)
	}
}

// mustInvert wants Join of what Cut returns to be the tree, and each of the
// parts to fit, at its place alone unless another one is the same.
func mustInvert(t testing.TB, what string, w int, x api.Tree, n int) {
	t.Helper()
	head, parts, err := chunk.Cut(w, x, n)
	if err != nil {
		t.Errorf("Cut(%d, %s, %d): %v", w, what, n, err)
		return
	}
	mustCount(t, what, head, len(parts))
	mustJoin(t, what, w, head, parts, x)
	mustHaveTheDigest(t, what, w, head, parts)
	a, errA := tree.Digest(w, x)
	b, errB := tree.Digest(w, head)
	if errA != nil || errB != nil || !bytes.Equal(a, b) {
		t.Errorf("the head at %d of %s has the digest %x, %v, the tree %x, %v", n, what, b, errB, a, errA)
	}
	for i, part := range parts[:min(len(parts), 8)] {
		mustFit(t, what, w, head, i, part, nil)
	}
}

// Trees.

type named struct {
	name string
	t    api.Tree
}

// grown is the balanced tree of n pairs that come in no order.
func grown(t testing.TB, n int) api.Tree {
	t.Helper()
	x := none
	for i := range n {
		var err error
		if x, err = avl.Put(x, fmt.Appendf(nil, "%05d", i*7919%100003), filled(i%50, uint32(i))); err != nil {
			t.Fatal(err)
		}
	}
	return x
}

// stacked is a tree under n nodes; turn tells of each to which side it goes on.
func stacked(n int, x api.Tree, turn func(i int) bool) api.Tree {
	for i := range n {
		key := fmt.Sprint("s", n-i)
		if turn(i) {
			x = node(none, key, "right", x)
		} else {
			x = node(x, key, "left", none)
		}
	}
	return x
}

func left(int) bool     { return false }
func right(int) bool    { return true }
func zigzag(i int) bool { return i%2 == 0 }

// complete is the tree of all nodes within some levels, with keys that rise.
func complete(levels int) api.Tree {
	next := 0
	var of func(levels int) api.Tree
	of = func(levels int) api.Tree {
		if levels == 0 {
			return none
		}
		l := of(levels - 1)
		key := fmt.Sprintf("%04d", next)
		next++
		return node(l, key, "v"+key, of(levels-1))
	}
	return of(levels)
}

// uneven are trees whose sides are unlike in depth.
func uneven() []named {
	return []named{
		{"two nodes to the left", node(leaf("a"), "b", "", none)},
		{"two nodes to the right", node(none, "a", "", leaf("b"))},
		{"three nodes to the left", stacked(3, none, left)},
		{"three nodes to the right", stacked(3, none, right)},
		{"three nodes on a zigzag", stacked(3, none, zigzag)},
		{"a deep left beside one node", node(stacked(5, leaf("a"), zigzag), "t", "", leaf("u"))},
		{"a deep right beside one node", node(leaf("a"), "b", "", stacked(5, leaf("c"), zigzag))},
		{"a complete left beside nothing", node(complete(4), "t", "", none)},
		{"a complete right beside two nodes", node(node(leaf("!"), "!!", "", none), "#", "", complete(4))},
		{"ways of all lengths", node(node(leaf("a"), "b", "1", node(none, "c", "2", leaf("d"))), "e", "3",
			node(node(stacked(2, none, left), "u", "4", stacked(3, none, right)), "x", "5", none))},
	}
}

// deepest are trees as deep as they may be.
func deepest() []named {
	return []named{
		{"64 nodes to the left", stacked(64, none, left)},
		{"64 nodes to the right", stacked(64, none, right)},
		{"64 nodes on a zigzag", stacked(64, none, zigzag)},
		{"64 levels on the left", node(stacked(63, none, zigzag), "t", "", complete(3))},
		{"64 levels on the right", node(complete(3), "a", "", stacked(63, none, left))},
		{"64 levels on both sides", node(stacked(63, none, right), "a", "", stacked(63, none, left))},
		{"64 levels, the last ones complete", stacked(60, complete(4), zigzag)},
	}
}

// fullTrees are full trees of all shapes.
func fullTrees(t testing.TB) []named {
	long, wide := string(filled(80, 1)), string(filled(1024, 2))
	out := []named{
		{"the empty tree", none},
		{"the empty tree with empty fields", api.Tree{Key: []byte{}, Value: []byte{}, Digest: []byte{}, Kids: []api.Tree{}}},
		{"one node", leaf("a")},
		{"one node without key and value", node(none, "", "", none)},
		{"one node with an empty Digest", api.Tree{Kind: 1, Digest: []byte{}, Kids: []api.Tree{none, none}}},
		{"one node of the greatest key and value", node(none, long, wide, none)},
		{"nodes of the greatest keys and values", node(node(none, long, wide, none), long, wide, node(none, long, wide, none))},
		{"three nodes", node(leaf("a"), "b", "", leaf("c"))},
		{"keys that do not rise", node(node(leaf("z"), "x", "", leaf("y")), "b", "", node(leaf("b"), "a", "", leaf("a")))},
		{"parts that are the same", node(node(leaf("a"), "b", "", leaf("a")), "c", "", node(leaf("a"), "b", "", leaf("a")))},
		{"a complete tree", complete(5)},
		{"100 pairs", grown(t, 100)},
	}
	return append(append(out, uneven()...), deepest()...)
}

// endless is a tree that contains itself.
func endless(kind int) api.Tree {
	x := api.Tree{Kind: kind, Kids: make([]api.Tree, 2)}
	x.Kids[0], x.Kids[1] = none, x
	return x
}

// tooDeep are trees that are too deep, whatever else they are.
func tooDeep() []named {
	return []named{
		{"65 nodes to the left", stacked(65, none, left)},
		{"65 nodes to the right", stacked(65, none, right)},
		{"65 nodes above a cut", stacked(65, cut(filled(32, 1)), zigzag)},
		{"65 nodes above what is malformed", stacked(65, api.Tree{Kind: 4}, zigzag)},
		{"65 levels, dark ones among them", stacked(32, dark(none, "d", filled(32, 2), stacked(32, none, right)), left)},
		{"64 nodes above the kind 4 with Kids", stacked(64, api.Tree{Kind: 4, Kids: []api.Tree{none}}, left)},
		{"a node within itself", endless(1)},
		{"a cut within itself", endless(3)},
	}
}

// malformed are trees that tree.Check rejects, none of them deep.
func malformed() []named {
	two := []api.Tree{none, none}
	key, sum := []byte("k"), filled(32, 3)
	out := []named{
		{"a none with a Key", api.Tree{Key: key}},
		{"a none with a Digest", api.Tree{Digest: sum}},
		{"a none with Kids", api.Tree{Kids: two}},
		{"a node without Kids", api.Tree{Kind: 1, Key: key}},
		{"a node with one Kid", api.Tree{Kind: 1, Key: key, Kids: two[:1]}},
		{"a node with three Kids", api.Tree{Kind: 1, Key: key, Kids: []api.Tree{none, none, cut(sum)}}},
		{"a node with a Digest", api.Tree{Kind: 1, Key: key, Digest: sum, Kids: two}},
		{"a node with a Key of 81", node(none, string(filled(81, 4)), "", none)},
		{"a node with a Value of 1025", node(none, "", string(filled(1025, 5)), none)},
		{"a dark node with one Kid", api.Tree{Kind: 2, Key: key, Digest: sum, Kids: two[:1]}},
		{"a dark node with a Value", api.Tree{Kind: 2, Key: key, Value: key, Digest: sum, Kids: two}},
		{"a cut with a Key", api.Tree{Kind: 3, Key: key, Digest: sum}},
		{"a cut with a Value", api.Tree{Kind: 3, Value: key, Digest: sum}},
		{"a cut with Kids", api.Tree{Kind: 3, Digest: sum, Kids: two}},
	}
	for _, kind := range []int{-1, -3, math.MinInt, 4, 5, 255, 256, 257, 259, 1<<32 + 1, 1<<32 + 3, math.MaxInt} {
		out = append(out, named{fmt.Sprintf("the kind %d", kind), api.Tree{Kind: kind}},
			named{fmt.Sprintf("the kind %d with a node's fields", kind), api.Tree{Kind: kind, Key: key, Value: key, Kids: two}},
			named{fmt.Sprintf("the kind %d with a cut's fields", kind), api.Tree{Kind: kind, Digest: sum}})
	}
	return out
}

// partial are trees that are not full, with digests of w bytes.
func partial(w int) []named {
	d := func(seed uint32) []byte { return filled(w, seed) }
	return []named{
		{"a cut", cut(d(1))},
		{"a dark node", dark(none, "k", d(2), none)},
		{"a dark node above cuts", dark(cut(d(3)), "k", d(4), cut(d(5)))},
		{"a node above a cut", node(cut(d(6)), "k", "v", none)},
		{"a cut to the right", node(leaf("a"), "k", "v", cut(d(7)))},
		{"a dark node to the left", node(dark(none, "a", d(8), leaf("b")), "k", "v", none)},
	}
}

// place puts a part somewhere within a tree.
type place struct {
	name string
	with func(api.Tree) api.Tree
}

// places are the root, both sides of a node, and some further down. They hold
// no TreeCut and no TreeDark of their own.
func places() []place {
	return []place{
		{"the root", func(x api.Tree) api.Tree { return x }},
		{"the left of a node", func(x api.Tree) api.Tree { return node(x, "t", "v", none) }},
		{"the right of a node", func(x api.Tree) api.Tree { return node(leaf("a"), "b", "", x) }},
		{"the middle of a tree", func(x api.Tree) api.Tree {
			return node(node(leaf("a"), "b", "1", x), "t", "2", leaf("u"))
		}},
		{"the left end of a tree", func(x api.Tree) api.Tree {
			return node(node(node(x, "t", "1", none), "u", "", leaf("v")), "w", "2", leaf("x"))
		}},
		{"the end of a long way", func(x api.Tree) api.Tree { return stacked(50, x, zigzag) }},
	}
}
