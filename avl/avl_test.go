package avl_test

import (
	"bytes"
	"fmt"
	"maps"
	"math"
	"math/rand"
	"slices"
	"strings"
	"testing"

	"heartwood/api"
	"heartwood/avl"
	"heartwood/tree"
)

var none = api.Tree{}

func node(l api.Tree, key, value string, r api.Tree) api.Tree {
	return api.Tree{Kind: api.TreeNode, Key: []byte(key), Value: []byte(value), Kids: []api.Tree{l, r}}
}

func leaf(key string) api.Tree { return node(none, key, "v"+key, none) }

// drawn makes a tree of its drawing, such as ((a)b(c)): keys of one letter,
// each with the value v followed by the key.
func drawn(s string) api.Tree {
	at := 0
	var part func() api.Tree
	part = func() api.Tree {
		if at == len(s) || s[at] != '(' {
			return none
		}
		at++
		l := part()
		key := s[at : at+1]
		at++
		r := part()
		at++
		return node(l, key, "v"+key, r)
	}
	t := part()
	if at != len(s) || drawing(t) != s {
		panic("no drawing: " + s)
	}
	return t
}

// drawing is what drawn reads, with keys of other bytes as Go writes them.
func drawing(t api.Tree) string {
	if len(t.Kids) != 2 {
		return ""
	}
	key := strings.Trim(fmt.Sprintf("%q", t.Key), `"`)
	return "(" + drawing(t.Kids[0]) + key + drawing(t.Kids[1]) + ")"
}

// filled returns n bytes without a short period, so that a mixed-up order shows.
func filled(n int, seed uint32) []byte {
	out := make([]byte, n)
	x := seed*2654435761 + 1
	for i := range out {
		x = x*1664525 + 1013904223
		out[i] = byte(x >> 24)
	}
	return out
}

// same compares trees by what they say: nil and empty are one.
func same(a, b api.Tree) bool {
	return a.Kind == b.Kind && bytes.Equal(a.Key, b.Key) && bytes.Equal(a.Value, b.Value) &&
		bytes.Equal(a.Digest, b.Digest) && slices.EqualFunc(a.Kids, b.Kids, same)
}

// pairsOf are the pairs of a full tree, in the order of its keys.
func pairsOf(t api.Tree) []api.Pair {
	if len(t.Kids) != 2 {
		return nil
	}
	return slices.Concat(pairsOf(t.Kids[0]), []api.Pair{{Key: t.Key, Value: t.Value}}, pairsOf(t.Kids[1]))
}

func heightOf(t api.Tree) int {
	if len(t.Kids) != 2 {
		return 0
	}
	return 1 + max(heightOf(t.Kids[0]), heightOf(t.Kids[1]))
}

// partsOf are all parts of a tree, itself first.
func partsOf(t api.Tree) []api.Tree {
	out := []api.Tree{t}
	for _, kid := range t.Kids {
		out = append(out, partsOf(kid)...)
	}
	return out
}

// spelledIs is P5.1 by the document's words: three conditions, each looked at
// on its own.
func spelledIs(t api.Tree) bool {
	if tree.Check(t) != nil {
		return false
	}
	for _, part := range partsOf(t) {
		if part.Kind == 2 || part.Kind == 3 {
			return false
		}
		if part.Kind == 1 {
			apart := heightOf(part.Kids[0]) - heightOf(part.Kids[1])
			if apart < -1 || apart > 1 {
				return false
			}
		}
	}
	pairs := pairsOf(t)
	for i, p := range pairs {
		for _, q := range pairs[:i] {
			if string(q.Key) >= string(p.Key) {
				return false
			}
		}
	}
	return true
}

// The changes by the document's words, on trees that are changed in place: so
// that what they have in common with the program is the document alone.

type knot struct {
	key, value  string
	left, right *knot
}

func knotOf(t api.Tree) *knot {
	if t.Kind == 0 {
		return nil
	}
	return &knot{string(t.Key), string(t.Value), knotOf(t.Kids[0]), knotOf(t.Kids[1])}
}

func (k *knot) tree() api.Tree {
	if k == nil {
		return none
	}
	return node(k.left.tree(), k.key, k.value, k.right.tree())
}

func (k *knot) depth() int {
	if k == nil {
		return 0
	}
	return 1 + max(k.left.depth(), k.right.depth())
}

func turnRight(at **knot) {
	n, l := *at, (*at).left
	n.left, l.right, *at = l.right, n, l
}

func turnLeft(at **knot) {
	n, r := *at, (*at).right
	n.right, r.left, *at = r.left, n, r
}

func settle(at **knot) {
	n := *at
	if n.left.depth() == n.right.depth()+2 {
		if n.left.left.depth() < n.left.right.depth() {
			turnLeft(&n.left)
		}
		turnRight(at)
	} else if n.right.depth() == n.left.depth()+2 {
		if n.right.right.depth() < n.right.left.depth() {
			turnRight(&n.right)
		}
		turnLeft(at)
	}
}

func putIn(at **knot, key, value string) {
	n := *at
	if n == nil {
		*at = &knot{key: key, value: value}
		return
	}
	if n.key == key {
		n.value = value
		return
	}
	if key < n.key {
		putIn(&n.left, key, value)
	} else {
		putIn(&n.right, key, value)
	}
	settle(at)
}

func takeOut(at **knot, key string) bool {
	n := *at
	if n == nil {
		return false
	}
	was := true
	switch {
	case n.key == key && n.left == nil:
		*at = n.right
		return true
	case n.key == key && n.right == nil:
		*at = n.left
		return true
	case n.key == key:
		next := n.right
		for next.left != nil {
			next = next.left
		}
		takeOut(&n.right, next.key)
		n.key, n.value = next.key, next.value
	case key < n.key:
		was = takeOut(&n.left, key)
	default:
		was = takeOut(&n.right, key)
	}
	settle(at)
	return was
}

func spelledPut(t api.Tree, key, value string) api.Tree {
	k := knotOf(t)
	putIn(&k, key, value)
	return k.tree()
}

func spelledDelete(t api.Tree, key string) (api.Tree, bool) {
	k := knotOf(t)
	was := takeOut(&k, key)
	return k.tree(), was
}

func mustPut(t testing.TB, x api.Tree, key, value string) api.Tree {
	t.Helper()
	got, err := avl.Put(x, []byte(key), []byte(value))
	if err != nil {
		t.Fatalf("Put(%s, %q) = %v", drawing(x), key, err)
	}
	return got
}

func mustDelete(t testing.TB, x api.Tree, key string) api.Tree {
	t.Helper()
	got, was, err := avl.Delete(x, []byte(key))
	if err != nil || !was {
		t.Fatalf("Delete(%s, %q) = %v, %v", drawing(x), key, was, err)
	}
	return got
}

func mustGet(t testing.TB, x api.Tree, key, want string) {
	t.Helper()
	if got, is, err := avl.Get(x, []byte(key)); string(got) != want || !is || err != nil {
		t.Errorf("Get(%s, %q) = %q, %v, %v, want %q", drawing(x), key, got, is, err, want)
	}
}

func mustMiss(t testing.TB, x api.Tree, key string) {
	t.Helper()
	if got, is, err := avl.Get(x, []byte(key)); len(got) != 0 || is || err != nil {
		t.Errorf("Get(%s, %q) = %q, %v, %v, want none", drawing(x), key, got, is, err)
	}
	if got, was, err := avl.Delete(x, []byte(key)); !same(got, x) || was || err != nil {
		t.Errorf("Delete(%s, %q) = %s, %v, %v, want the tree and false", drawing(x), key, drawing(got), was, err)
	}
}

// mustRefuse wants the error itself, a plain Code, of the three functions, and
// zero values beside it. Only Put has the value.
func mustRefuse(t testing.TB, what string, x api.Tree, key, value []byte, want error) {
	t.Helper()
	if got, err := avl.Put(x, key, value); err != want || !same(got, none) {
		t.Errorf("%s: Put = %v, %v, want %v alone", what, got, err, want)
	}
	if len(value) > 1024 && want == api.ErrArg {
		return
	}
	if got, is, err := avl.Get(x, key); err != want || len(got) != 0 || is {
		t.Errorf("%s: Get = %q, %v, %v, want %v alone", what, got, is, err, want)
	}
	if got, was, err := avl.Delete(x, key); err != want || !same(got, none) || was {
		t.Errorf("%s: Delete = %v, %v, %v, want %v alone", what, got, was, err, want)
	}
}

// mustBe holds Is against what is wanted, and the errors of the others with it.
func mustBe(t testing.TB, what string, x api.Tree, want bool) {
	t.Helper()
	if got := avl.Is(x); got != want {
		t.Errorf("Is of %s = %v", what, got)
	}
	if spelledIs(x) != want {
		t.Errorf("%s is taken for what it is not", what)
	}
	if !want {
		for _, key := range []string{"", "b", "k", "zzz"} {
			mustRefuse(t, what, x, []byte(key), []byte("1"), api.ErrForm)
		}
	} else if _, _, err := avl.Get(x, []byte("b")); err != nil {
		t.Errorf("Get from %s: %v", what, err)
	}
}

type named struct {
	name string
	t    api.Tree
}

// places put a part with a key between c and e, or without keys, where the
// rest is balanced and its keys rise.
var places = []struct {
	name string
	put  func(api.Tree) api.Tree
}{
	{"alone", func(x api.Tree) api.Tree { return x }},
	{"on the left", func(x api.Tree) api.Tree { return node(x, "k", "v", leaf("l")) }},
	{"on the right", func(x api.Tree) api.Tree { return node(leaf("a"), "b", "v", x) }},
	{"left of the right", func(x api.Tree) api.Tree { return node(leaf("a"), "b", "v", node(x, "k", "v", leaf("l"))) }},
	{"right of the left", func(x api.Tree) api.Tree { return node(node(leaf("a"), "b", "v", x), "k", "v", leaf("l")) }},
	{"outermost on the left", func(x api.Tree) api.Tree {
		return node(node(node(x, "f", "", none), "g", "", leaf("h")), "i", "", node(leaf("j"), "k", "", none))
	}},
	{"outermost on the right", func(x api.Tree) api.Tree {
		return node(node(none, "A", "", leaf("B")), "C", "", node(leaf("a"), "b", "", node(none, "c", "", x)))
	}},
}

// P5.1

func TestIsOfBalancedTrees(t *testing.T) {
	for _, x := range []named{
		{"the empty tree", none},
		{"the empty tree with empty fields", api.Tree{Key: []byte{}, Value: []byte{}, Digest: []byte{}, Kids: []api.Tree{}}},
		{"a node", leaf("d")},
		{"a node with an empty Digest", api.Tree{Kind: 1, Key: []byte("d"), Digest: []byte{}, Kids: []api.Tree{none, none}}},
	} {
		for _, at := range places {
			mustBe(t, x.name+" "+at.name, at.put(x.t), true)
		}
	}
	for _, x := range []named{
		{"a node without a key", leaf("")},
		{"the empty key and a byte 0", node(leaf(""), "\x00", "", leaf("\x00\x00"))},
		{"the empty key as nil", api.Tree{Kind: 1, Kids: []api.Tree{none, leaf("\x00")}}},
		{"a byte 0 above the empty key", node(none, "", "", leaf("\x00"))},
		{"a key of 80 bytes", node(none, string(filled(80, 1)), string(filled(1024, 2)), none)},
		{"prefixes", node(leaf("a"), "aa", "", leaf("aaa"))},
		{"a longer key that is less", node(leaf("aaaa"), "ab", "", leaf("b"))},
		{"bytes above 127", node(leaf("\x7f"), "\x80", "", leaf("\xff"))},
		{"keys that differ at the end", node(leaf(strings.Repeat("x", 79)+"a"), strings.Repeat("x", 79)+"b", "", none)},
		{"one value thrice", node(node(none, "a", "v", none), "b", "v", node(none, "c", "v", none))},
		{"values that fall", node(node(none, "a", "3", none), "b", "2", node(none, "c", "1", none))},
		{"deeper on the left", drawn("((a)b)")},
		{"deeper on the right", drawn("(a(b))")},
	} {
		mustBe(t, x.name, x.t, true)
	}
}

func TestIsOfWhatIsNoTree(t *testing.T) {
	two := []api.Tree{none, none}
	key, sum := []byte("d"), filled(32, 3)
	bad := []named{
		{"a none with a Key", api.Tree{Key: key}},
		{"a none with a Value", api.Tree{Value: key}},
		{"a none with a Digest", api.Tree{Digest: sum}},
		{"a none with one Kid", api.Tree{Kids: []api.Tree{none}}},
		{"a none with two Kids", api.Tree{Kids: two}},
		{"a none with a node's fields", api.Tree{Key: key, Value: key, Kids: two}},
		{"a node with a Digest", api.Tree{Kind: 1, Key: key, Value: key, Digest: sum, Kids: two}},
		{"a node with a Key of 81", api.Tree{Kind: 1, Key: append([]byte("d"), filled(80, 1)...), Kids: two}},
		{"a node with a Value of 1025", api.Tree{Kind: 1, Key: key, Value: filled(1025, 2), Kids: two}},
		{"a node without Kids", api.Tree{Kind: 1, Key: key}},
		{"a node with one Kid", api.Tree{Kind: 1, Key: key, Kids: []api.Tree{none}}},
		{"a node with three Kids", api.Tree{Kind: 1, Key: key, Kids: make([]api.Tree, 3)}},
		{"a dark node with a Value", api.Tree{Kind: 2, Key: key, Value: key, Kids: two}},
		{"a dark node without Kids", api.Tree{Kind: 2, Key: key, Digest: sum}},
		{"a cut with a Key", api.Tree{Kind: 3, Key: key, Digest: sum}},
		{"a cut with Kids", api.Tree{Kind: 3, Digest: sum, Kids: two}},
	}
	for _, kind := range []int{-1, math.MinInt, 4, 256 + 1, 1<<32 + 1, math.MaxInt} {
		bad = append(bad,
			named{fmt.Sprintf("a kind %d", kind), api.Tree{Kind: kind}},
			named{fmt.Sprintf("a kind %d with a node's fields", kind), api.Tree{Kind: kind, Key: key, Value: key, Kids: two}})
	}
	for _, x := range bad {
		for _, at := range places {
			mustBe(t, x.name+" "+at.name, at.put(x.t), false)
		}
	}
}

func TestIsOfTreesThatAreNotFull(t *testing.T) {
	for _, n := range []int{0, 1, 32} {
		for _, x := range []named{
			{"a dark node", api.Tree{Kind: 2, Key: []byte("d"), Digest: filled(n, 1), Kids: []api.Tree{none, none}}},
			{"a cut", api.Tree{Kind: 3, Digest: filled(n, 2)}},
		} {
			for _, at := range places {
				mustBe(t, fmt.Sprintf("%s of %d bytes %s", x.name, n, at.name), at.put(x.t), false)
			}
		}
	}
}

// TestIsOfDeepTrees: also beyond what a tree may have, without an end as well.
func TestIsOfDeepTrees(t *testing.T) {
	for _, n := range []int{3, 63, 64, 65, 100, 10000} {
		falling, rising := none, none
		for i := range n {
			falling = node(falling, fmt.Sprintf("%06d", i), "", none)
			rising = node(none, fmt.Sprintf("%06d", n-i), "", rising)
		}
		for _, x := range []api.Tree{falling, rising} {
			if avl.Is(x) {
				t.Errorf("Is of a way of %d nodes", n)
			}
			mustRefuse(t, fmt.Sprintf("a way of %d nodes", n), x, []byte("a"), nil, api.ErrForm)
		}
	}
	for i := range 2 {
		loop := leaf("a")
		loop.Kids[i] = loop
		if avl.Is(loop) {
			t.Error("Is of a tree that contains itself")
		}
		mustRefuse(t, "a tree that contains itself", loop, []byte("a"), nil, api.ErrForm)
	}
}

func TestIsOfKeysThatDoNotRise(t *testing.T) {
	for _, s := range []string{
		"((a)a)", "(a(a))", "((b)a)", "(b(a))",
		"((a)b(b))", "((b)b(c))", "((a)b(a))", "((c)b(d))", "((c)b(a))",
		"((a(d))c(e))", "((a(c))c(e))", "((a)b((b)d))", "((a)b((a)d))", // each node fits its Kids
		"(((a)b(e))d((f)g(h)))", "(((a)b(d))d((f)g(h)))", "(((a)b(c))d((c)g(h)))", "(((a)b(c))d((d)g(h)))",
		"(((a)b(c))d((e)g(f)))", "(((c)b(a))d((e)f(g)))", "(((e)f(g))d((a)b(c)))",
	} {
		mustBe(t, s, drawn(s), false)
	}
	for _, x := range []named{
		{"the empty key twice", node(leaf(""), "", "", none)},
		{"the empty key twice, as nil", api.Tree{Kind: 1, Kids: []api.Tree{none, {Kind: 1, Kids: []api.Tree{none, none}}}}},
		{"the empty key on the right", node(none, "\x00", "", leaf(""))},
		{"the empty key twice, apart", node(leaf(""), "a", "", leaf(""))},
		{"a longer key first", node(leaf("aa"), "a", "", none)},
		{"a prefix behind", node(none, "aa", "", leaf("a"))},
		{"bytes as signed numbers", node(leaf("\x80"), "\x7f", "", none)},
		{"by length first", node(leaf("b"), "aa", "", none)},
		{"a difference at the end", node(leaf(strings.Repeat("x", 79)+"b"), strings.Repeat("x", 79)+"a", "", none)},
		{"one key with two values", node(none, "a", "1", node(none, "a", "2", none))},
	} {
		mustBe(t, x.name, x.t, false)
	}
}

func TestIsOfKidsThatDifferInDepth(t *testing.T) {
	for _, s := range []string{
		"(a(b(c)))", "(((a)b)c)", "(a((b)c))", "((a(b))c)",
		"(((a)b(c))d)", "(a((b)c(d)))",
		"((((a)b(c))d(e))f(g))", "((a)b((c)d((e)f(g))))", // at the root alone
		"((a(b(c)))d((e)f(g)))", "(((a)b(c))d(((e)f)g))", // below the root alone
		"((((a)b(c))d)e((f)g(h)))", "(((a)b(c))d(e((f)g(h))))",
	} {
		mustBe(t, s, drawn(s), false)
	}
	for _, s := range []string{
		"((a)b(c))", "(((a)b)c(d))", "((a(b))c(d))", "((a)b((c)d))", "((a)b(c(d)))",
		"(((a)b)c((d)e))", "((a(b))c(d(e)))",
		"((((a)b)c(d))e((f)g))", "((a(b))c((d)e(f(g))))",
	} {
		mustBe(t, s, drawn(s), true)
	}
}

// shapes are the trees of all shapes with those keys, balanced or not.
func shapes(keys string) []api.Tree {
	if keys == "" {
		return []api.Tree{none}
	}
	var out []api.Tree
	for i := range len(keys) {
		for _, l := range shapes(keys[:i]) {
			for _, r := range shapes(keys[i+1:]) {
				out = append(out, node(l, keys[i:i+1], "v"+keys[i:i+1], r))
			}
		}
	}
	return out
}

// letters are every other one, so that there are keys between them.
const letters = "bdfhjlnprtvxz"

// balancedShapes are the balanced ones of n nodes.
func balancedShapes(n int) []api.Tree {
	return slices.DeleteFunc(shapes(letters[:n]), func(x api.Tree) bool { return !spelledIs(x) })
}

func TestIsOfAllShapes(t *testing.T) {
	// How many of the shapes of so many nodes are balanced is known.
	for n, want := range []int{1, 1, 2, 1, 4, 6, 4, 17, 32, 44} {
		count := 0
		for _, x := range shapes(letters[:n]) {
			if avl.Is(x) != spelledIs(x) {
				t.Errorf("Is of %s = %v", drawing(x), avl.Is(x))
			}
			if avl.Is(x) {
				count++
			}
		}
		if count != want {
			t.Errorf("%d trees of %d nodes are balanced, want %d", count, n, want)
		}
	}
}

// TestIsOfAllKeys: all keys of a few letters, in all balanced shapes.
func TestIsOfAllKeys(t *testing.T) {
	for n := range 6 {
		for _, shape := range balancedShapes(n) {
			all := 1
			for range n {
				all *= 5
			}
			for i := range all {
				x := relabelled(shape, func() string {
					key := "\x00\x01\x7f\x80\xff"[i%5 : i%5+1]
					i /= 5
					return key
				})
				if avl.Is(x) != spelledIs(x) {
					t.Fatalf("Is of %q = %v", drawing(x), avl.Is(x))
				}
			}
		}
	}
}

// relabelled is a copy of a tree with other keys, which are asked for in their
// order.
func relabelled(t api.Tree, next func() string) api.Tree {
	if t.Kind == 0 {
		return none
	}
	l := relabelled(t.Kids[0], next)
	key := next()
	return node(l, key, string(t.Value), relabelled(t.Kids[1], next))
}

// slanted is the tree of that depth with the fewest nodes, deeper on one side
// throughout.
func slanted(depth int, left bool, next func() string) api.Tree {
	if depth <= 0 {
		return none
	}
	less := [2]int{1, 2}
	if !left {
		less = [2]int{2, 1}
	}
	l := slanted(depth-less[0], left, next)
	key := next()
	return node(l, key, "v", slanted(depth-less[1], left, next))
}

func counter() func() string {
	i := 0
	return func() string {
		i += 2
		return fmt.Sprintf("%06d", i)
	}
}

func TestIsOfSlantedTrees(t *testing.T) {
	for depth := range 16 {
		for _, left := range []bool{true, false} {
			x := slanted(depth, left, counter())
			if !avl.Is(x) || tree.Depth(x) != depth {
				t.Errorf("Is of the slanted tree of depth %d = %v", depth, avl.Is(x))
			}
			if depth < 2 {
				continue
			}
			short := 1
			if !left {
				short = 0
			}
			grown := x
			grown.Kids = slices.Clone(x.Kids)
			grown.Kids[short] = slanted(depth-3, left, counter())
			grown = relabelled(grown, counter())
			if want := depth < 3; avl.Is(grown) != want {
				t.Errorf("Is of the slanted tree of depth %d with less on its short side = %v", depth, !want)
			}
		}
	}
}

// P5.2

func TestGet(t *testing.T) {
	mustMiss(t, none, "")
	mustMiss(t, none, "a")
	for n := range 9 {
		for _, x := range balancedShapes(n) {
			for c := byte('a'); c <= 'z'; c++ {
				key := string(c)
				if strings.Contains(letters[:n], key) {
					mustGet(t, x, key, "v"+key)
				} else {
					mustMiss(t, x, key)
				}
				mustMiss(t, x, key+"\x00")
				mustMiss(t, x, key+key)
			}
			mustMiss(t, x, "")
			mustMiss(t, x, "\xff")
		}
	}
}

func TestGetOfOddKeysAndValues(t *testing.T) {
	long := strings.Repeat("x", 79)
	x := none
	pairs := map[string]string{
		"": "empty", "\x00": "", "\x00\x00": "two", "a": "1", "a\x00": "2", "aa": "3",
		"\x7f": "4", "\x80": "5", "\xff": "6", "\xff\xff": "",
		long: "7", long + "a": "8", long + "b": string(filled(1024, 1)),
	}
	for _, key := range slices.Sorted(maps.Keys(pairs)) {
		mustMiss(t, x, key)
		x = mustPut(t, x, key, pairs[key])
	}
	for key, value := range pairs {
		mustGet(t, x, key, value)
	}
	if got, is, err := avl.Get(x, nil); string(got) != "empty" || !is || err != nil {
		t.Errorf("Get of nil = %q, %v, %v", got, is, err)
	}
	for _, key := range []string{"\x00\x00\x00", "b", "A", "ab", long[1:], long + "c", "\xfe", "\xff\x00"} {
		mustMiss(t, x, key)
	}
}

func TestLongKeysAndValues(t *testing.T) {
	key80, key81, value, value1025 := filled(80, 1), filled(81, 1), filled(1024, 2), filled(1025, 2)
	balanced := []named{
		{"the empty tree", none},
		{"a node", leaf("a")},
		{"nodes", drawn("((a)b(c(d)))")},
		{"a node with the longest key", node(none, string(key80), "", none)},
	}
	for _, x := range balanced {
		for _, key := range [][]byte{key81, filled(1024, 3), filled(100000, 4)} {
			mustRefuse(t, x.name, x.t, key, nil, api.ErrArg)
			mustRefuse(t, x.name, x.t, key, value, api.ErrArg)
			mustRefuse(t, x.name, x.t, key, value1025, api.ErrArg)
		}
		for _, key := range []string{"", "a", "b", "e", string(key80)} {
			mustRefuse(t, x.name, x.t, []byte(key), value1025, api.ErrArg)
			mustRefuse(t, x.name, x.t, []byte(key), filled(100000, 5), api.ErrArg)
		}
		for _, v := range [][]byte{nil, {}, {0}, filled(80, 6), filled(81, 6), filled(1023, 6), value} {
			y := mustPut(t, x.t, string(key80), string(v))
			mustGet(t, y, string(key80), string(v))
			if !avl.Is(y) {
				t.Errorf("a key of 80 bytes and a value of %d in %s: not balanced", len(v), x.name)
			}
			mustMiss(t, mustDelete(t, y, string(key80)), string(key80))
		}
	}
}

func TestTheTreeIsLookedAtFirst(t *testing.T) {
	key81, value1025 := filled(81, 1), filled(1025, 2)
	for _, x := range []named{
		{"a dark node", api.Tree{Kind: 2, Key: []byte("a"), Digest: filled(32, 1), Kids: []api.Tree{none, none}}},
		{"a cut", api.Tree{Kind: 3, Digest: filled(32, 1)}},
		{"a kind 4", api.Tree{Kind: 4}},
		{"a none with a Key", api.Tree{Key: []byte("a")}},
		{"a node without Kids", api.Tree{Kind: 1}},
		{"a key of 81 bytes", node(none, string(key81), "", none)},
		{"a value of 1025 bytes", node(none, "a", string(value1025), none)},
		{"a cut aside of the key", node(leaf("a"), "b", "", api.Tree{Kind: 3})},
		{"keys that fall", drawn("((b)a)")},
		{"a key twice", drawn("((a)a)")},
		{"a key twice, apart", drawn("((a)b(a))")},
		{"a way", drawn("(a(b(c)))")},
		{"a way aside of the key", drawn("((a)b((c((d(e))f))g))")},
	} {
		for _, key := range [][]byte{nil, []byte("a"), []byte("q"), filled(80, 1), key81} {
			for _, value := range [][]byte{nil, []byte("1"), filled(1024, 2), value1025} {
				mustRefuse(t, x.name, x.t, key, value, api.ErrForm)
			}
		}
	}
}

// P5.3

func TestExamples(t *testing.T) {
	x := mustPut(t, mustPut(t, mustPut(t, none, "a", "va"), "b", "vb"), "c", "vc")
	if !same(x, drawn("((a)b(c))")) {
		t.Errorf("a, b and c: %s", drawing(x))
	}
	if y := mustDelete(t, x, "b"); !same(y, drawn("((a)c)")) {
		t.Errorf("without b: %s", drawing(y))
	}
}

func TestPut(t *testing.T) {
	for _, c := range []struct{ from, key, to string }{
		{"", "a", "(a)"},
		{"(b)", "a", "((a)b)"},
		{"(b)", "c", "(b(c))"},
		{"((a)b)", "c", "((a)b(c))"},
		// Each of the four rebalancings, where the Kids are empty.
		{"((b)c)", "a", "((a)b(c))"},
		{"((a)c)", "b", "((a)b(c))"},
		{"(a(b))", "c", "((a)b(c))"},
		{"(a(c))", "b", "((a)b(c))"},
		// The same where they are not, with either one of the inner Kids deeper.
		{"(((b)c(d))e(f))", "a", "(((a)b)c((d)e(f)))"},
		{"(((a)b(d))e(f))", "c", "(((a)b(c))d(e(f)))"},
		{"(((a)b(c))e(f))", "d", "(((a)b)c((d)e(f)))"},
		{"((a)b((c)d(e)))", "f", "(((a)b(c))d(e(f)))"},
		{"((a)b((d)e(f)))", "c", "(((a)b(c))d(e(f)))"},
		{"((a)b((c)e(f)))", "d", "(((a)b)c((d)e(f)))"},
		// Below the root; nothing is left to be done above.
		{"(((b)c)d(e))", "a", "(((a)b(c))d(e))"},
		{"(((a)c)d(e))", "b", "(((a)b(c))d(e))"},
		{"((a)b(c(d)))", "e", "((a)b((c)d(e)))"},
		{"((a)b(c(e)))", "d", "((a)b((c)d(e)))"},
		// A key that is there stays where it is.
		{"((a)b((c)d))", "a", "((a)b((c)d))"},
		{"((a)b((c)d))", "b", "((a)b((c)d))"},
		{"((a)b((c)d))", "c", "((a)b((c)d))"},
		{"((a)b((c)d))", "d", "((a)b((c)d))"},
	} {
		if got := mustPut(t, drawn(c.from), c.key, "v"+c.key); !same(got, drawn(c.to)) {
			t.Errorf("%s with %s: %s, want %s", c.from, c.key, drawing(got), c.to)
		}
	}
}

func TestDelete(t *testing.T) {
	for _, c := range []struct{ from, key, to string }{
		// No, one and two nodes below.
		{"(a)", "a", ""},
		{"((a)b(c))", "a", "(b(c))"},
		{"((a)b(c))", "c", "((a)b)"},
		{"((a)b)", "b", "(a)"},
		{"(a(b))", "a", "(b)"},
		{"((a)b(c))", "b", "((a)c)"},
		{"(((a)b)c(d(e)))", "b", "((a)c(d(e)))"},
		{"(((a)b)c(d(e)))", "d", "(((a)b)c(e))"},
		{"(((a)b)c(d(e)))", "c", "(((a)b)d(e))"},
		// The least node of the right subtree has a node below itself.
		{"(((a)b)c((d(e))f(g)))", "c", "(((a)b)d((e)f(g)))"},
		// Each of the four rebalancings.
		{"(((a)b)c(d))", "d", "((a)b(c))"},
		{"((a(b))c(d))", "d", "((a)b(c))"},
		{"((a)b(c(d)))", "a", "((b)c(d))"},
		{"((a)b((c)d))", "a", "((b)c(d))"},
		// Where both Kids of the deeper one are as deep, it is rotated once.
		{"(((a)b(c))d(e))", "e", "((a)b((c)d))"},
		{"((a)b((c)d(e)))", "a", "((b(c))d(e))"},
		{"((((a)b(c))d((e)f(g)))h((i)j))", "i", "(((a)b(c))d(((e)f(g))h(j)))"},
		{"((a(b))c(((d)e(f))g((h)i(j))))", "a", "(((b)c((d)e(f)))g((h)i(j)))"},
		// At the node whose pair is replaced, since its right subtree is less deep.
		{"(((a)b)c(d))", "c", "((a)b(d))"},
		{"((a(b))c(d))", "c", "((a)b(d))"},
		{"(((a)b(c))d(e))", "d", "((a)b((c)e))"},
		// Within its right subtree, where the least node was.
		{"(((a)b)c((d)e(f(g))))", "c", "(((a)b)d((e)f(g)))"},
		{"(((a)b(c))d((e)f((g)h)))", "d", "(((a)b(c))e((f)g(h)))"},
		// In one node after another up to the root.
		{"((((a)b)c(d))e((f)g))", "d", "(((a)b(c))e((f)g))"},
		{"((((a)b)c(d))e(f(g)))", "g", "(((a)b)c((d)e(f)))"},
		{"((((a)b)c((d)e(f)))g(((h)i)j(k)))", "k", "((((a)b)c((d)e(f)))g((h)i(j)))"},
		{"(((((a)b)c(d))e((f)g))h(((i)j)k(l)))", "l", "((((a)b)c(d))e(((f)g)h((i)j(k))))"},
		{"(((a)b(c(d)))e((f(g))h((i)j(k(l)))))", "a", "((((b)c(d))e(f(g)))h((i)j(k(l))))"},
	} {
		if got := mustDelete(t, drawn(c.from), c.key); !same(got, drawn(c.to)) {
			t.Errorf("%s without %s: %s, want %s", c.from, c.key, drawing(got), c.to)
		}
	}
}

// mustChange holds Put and Delete of one key against the document's words.
func mustChange(t testing.TB, x api.Tree, key, value string) {
	t.Helper()
	put := mustPut(t, x, key, value)
	if want := spelledPut(x, key, value); !same(put, want) {
		t.Errorf("%s with %q: %s, want %s", drawing(x), key, drawing(put), drawing(want))
	}
	want, had := spelledDelete(x, key)
	got, was, err := avl.Delete(x, []byte(key))
	if err != nil || was != had || !same(got, want) {
		t.Errorf("%s without %q: %s, %v, %v, want %s, %v", drawing(x), key, drawing(got), was, err, drawing(want), had)
	}
	for _, y := range []api.Tree{put, got} {
		if !avl.Is(y) || !spelledIs(y) {
			t.Errorf("%s after a change at %q: %s is not balanced", drawing(x), key, drawing(y))
		}
	}
}

// TestEveryChangeOfSmallTrees: every key that is there and one in every gap, of
// every balanced shape.
func TestEveryChangeOfSmallTrees(t *testing.T) {
	for n := range 11 {
		for _, x := range balancedShapes(n) {
			mustChange(t, x, "a", "new")
			for i := range n {
				mustChange(t, x, letters[i:i+1], "new")
				mustChange(t, x, letters[i:i+1], "")
				mustChange(t, x, string(letters[i]+1), "new")
			}
		}
	}
}

// TestEveryChangeOfSlantedTrees: where a deletion on the short side has to be
// made up for in every node above.
func TestEveryChangeOfSlantedTrees(t *testing.T) {
	for depth := range 10 {
		for _, left := range []bool{true, false} {
			x := slanted(depth, left, counter())
			for i := range 2*len(pairsOf(x)) + 2 {
				mustChange(t, x, fmt.Sprintf("%06d", i), "new")
			}
		}
	}
}

func TestDeleteOfKeysThatDoNotOccur(t *testing.T) {
	for n := range 8 {
		for _, x := range balancedShapes(n) {
			for _, key := range []string{"", "\x00", "a", "b\x00", "c", "g", "zz", "\xff", string(filled(80, 1))} {
				mustMiss(t, x, key)
			}
		}
	}
}

// P5.4

// roomy returns a tree whose byte strings and Kids lie within longer arrays: a
// function that appends to one of them would write into what stands behind it.
func roomy(t api.Tree) api.Tree {
	t.Key, t.Value, t.Digest = roomyBytes(t.Key), roomyBytes(t.Value), roomyBytes(t.Digest)
	kids := append(slices.Clone(t.Kids), leaf("y"), leaf("z"))
	t.Kids = kids[:len(t.Kids)]
	for i := range t.Kids {
		t.Kids[i] = roomy(t.Kids[i])
	}
	return t
}

func roomyBytes(b []byte) []byte {
	return slices.Concat(b, bytes.Repeat([]byte{0xee}, 100))[:len(b)]
}

// wholeOf spells all that a tree's memory holds, what stands behind its fields
// among it.
func wholeOf(t api.Tree) string {
	out := fmt.Sprintf("%d %x %x %x %d(", t.Kind, t.Key[:cap(t.Key)], t.Value[:cap(t.Value)], t.Digest[:cap(t.Digest)], len(t.Kids))
	for _, kid := range t.Kids[:cap(t.Kids)] {
		out += wholeOf(kid) + ","
	}
	return out + ")"
}

// flip overwrites all of the bytes' memory, what stands behind them among it.
func flip(b []byte) {
	b = b[:cap(b)]
	for i := range b {
		b[i] = ^b[i]
	}
}

// scrub overwrites all of a tree's memory.
func scrub(t api.Tree) {
	for _, b := range [][]byte{t.Key, t.Value, t.Digest} {
		flip(b)
	}
	for i := range t.Kids {
		scrub(t.Kids[i])
		t.Kids[i] = leaf("scrubbed")
	}
}

func TestArgumentsStay(t *testing.T) {
	trees := []api.Tree{api.Tree{Kind: 2, Key: []byte("b"), Digest: filled(32, 1), Kids: []api.Tree{none, none}},
		api.Tree{Kind: 3, Digest: filled(32, 2)}, drawn("(b(d(f)))"), drawn("((b)b)"), slanted(6, true, counter())}
	for n := range 9 {
		trees = append(trees, balancedShapes(n)...)
	}
	for _, x := range trees {
		arg := roomy(x)
		before := wholeOf(arg)
		for _, k := range []string{"", "a", "b", "c", "d", "f", "h", "i", "000016", string(filled(80, 3)), string(filled(81, 3))} {
			for _, v := range []string{"", "new", string(filled(1024, 4)), string(filled(1025, 4))} {
				key, value := roomyBytes([]byte(k)), roomyBytes([]byte(v))
				avl.Is(arg)
				avl.Get(arg, key)
				avl.Put(arg, key, value)
				avl.Delete(arg, key)
				if !bytes.Equal(key[:cap(key)], roomyBytes([]byte(k))[:cap(key)]) || !bytes.Equal(value[:cap(value)], roomyBytes([]byte(v))[:cap(value)]) {
					t.Errorf("%s: the key %q or the value was modified", drawing(x), k)
				}
			}
		}
		if wholeOf(arg) != before {
			t.Errorf("%s was modified", drawing(x))
		}
	}
}

// cloned is a copy that shares no memory.
func cloned(t api.Tree) api.Tree {
	t.Key, t.Value, t.Digest = bytes.Clone(t.Key), bytes.Clone(t.Value), bytes.Clone(t.Digest)
	t.Kids = slices.Clone(t.Kids)
	for i := range t.Kids {
		t.Kids[i] = cloned(t.Kids[i])
	}
	return t
}

// mustBeApart changes what was passed beside the tree, and after that what came
// of it: neither may show in the other.
func mustBeApart(t *testing.T, what string, key, value []byte, results ...api.Tree) {
	t.Helper()
	kept := make([]api.Tree, len(results))
	for i, x := range results {
		kept[i] = cloned(x)
	}
	flip(key)
	flip(value)
	for i, x := range results {
		if !same(x, kept[i]) {
			t.Errorf("%s: what was done to the key or the value shows in a result", what)
		}
	}
	oldKey, oldValue := bytes.Clone(key), bytes.Clone(value)
	for _, x := range results {
		scrub(x)
	}
	if !bytes.Equal(key, oldKey) || !bytes.Equal(value, oldValue) {
		t.Errorf("%s: what was done to a result shows in the key or the value", what)
	}
}

func TestResultsDoNotShareKeyAndValue(t *testing.T) {
	for n := range 8 {
		for _, x := range balancedShapes(n) {
			for _, k := range []string{"", "a", "b", "c", "f", "g", "n", "z"} {
				what := fmt.Sprintf("%s and %q", drawing(x), k)
				key, value := roomyBytes([]byte(k)), roomyBytes([]byte("new"))
				put, err := avl.Put(cloned(x), key, value)
				if err != nil {
					t.Fatal(err)
				}
				mustBeApart(t, what, key, value, put)
				key = roomyBytes([]byte(k))
				out, _, err := avl.Delete(cloned(x), key)
				if err != nil {
					t.Fatal(err)
				}
				got, _, err := avl.Get(cloned(x), key)
				if err != nil {
					t.Fatal(err)
				}
				mustBeApart(t, what, key, nil, out, api.Tree{Value: got})
			}
		}
	}
}

// TestOneBufferForAll: a caller may use the same memory for every key and value.
func TestOneBufferForAll(t *testing.T) {
	x, buffer := none, make([]byte, 2)
	for i := range 50 {
		buffer[0], buffer[1] = byte(i), byte(i+100)
		var err error
		if x, err = avl.Put(x, buffer[:1], buffer[1:]); err != nil {
			t.Fatal(err)
		}
	}
	if len(pairsOf(x)) != 50 {
		t.Fatalf("%d pairs", len(pairsOf(x)))
	}
	for i := range 50 {
		mustGet(t, x, string([]byte{byte(i)}), string([]byte{byte(i + 100)}))
	}
}

// TestVersionsStay: each tree stays as it was returned, whatever is made of it.
func TestVersionsStay(t *testing.T) {
	r := rand.New(rand.NewSource(1))
	versions, copies := []api.Tree{none}, []api.Tree{none}
	for range 400 {
		x := versions[r.Intn(len(versions))]
		key := fmt.Sprint(r.Intn(40))
		y := mustPut(t, x, key, fmt.Sprint(r.Int()))
		if r.Intn(3) == 0 {
			var err error
			if y, _, err = avl.Delete(x, []byte(key)); err != nil {
				t.Fatal(err)
			}
		}
		versions, copies = append(versions, y), append(copies, cloned(y))
	}
	for i := range versions {
		if !same(versions[i], copies[i]) {
			t.Errorf("the version %d was modified", i)
		}
	}
}

// TestNothingIsRetained changes a tree after it was seen, and back.
func TestNothingIsRetained(t *testing.T) {
	x := drawn("((a)b(c))")
	mustGet(t, x, "a", "va")
	x.Kids[0].Value[1] = 'z'
	mustGet(t, x, "a", "vz")
	x.Kids[0].Key[0] = 'b'
	mustBe(t, "a tree with a key twice", x, false)
	x.Kids[0].Key[0] = 'A'
	mustBe(t, "a tree whose keys rise again", x, true)
	mustGet(t, x, "A", "vz")
	mustMiss(t, x, "a")
	x.Kids[1].Kids[1] = drawn("(d(e))")
	mustBe(t, "a tree with a way", x, false)
	x.Kids[1].Kids[1] = drawn("(d)")
	mustGet(t, x, "d", "vd")
	x.Kids[1].Kids[1] = api.Tree{Kind: 3}
	mustBe(t, "a tree with a cut", x, false)
	x.Kids[1].Kids[1] = none
	mustBe(t, "the tree without it", x, true)
}

// P5.5

// mustHold holds a tree against the pairs that it should have: all of them, and
// no others.
func mustHold(t testing.TB, what string, x api.Tree, pairs map[string]string) {
	t.Helper()
	if !avl.Is(x) || !spelledIs(x) {
		t.Fatalf("%s: not balanced: %s", what, drawing(x))
	}
	got := pairsOf(x)
	if len(got) != len(pairs) {
		t.Fatalf("%s: %d pairs, want %d", what, len(got), len(pairs))
	}
	for _, p := range got {
		if value, is := pairs[string(p.Key)]; !is || value != string(p.Value) {
			t.Fatalf("%s: the pair %q, %q, want %q", what, p.Key, p.Value, value)
		}
	}
}

// change is one insertion or deletion, held against a map and against the
// document's words.
func change(t testing.TB, x api.Tree, pairs map[string]string, put bool, key, value string) api.Tree {
	t.Helper()
	if put {
		y := mustPut(t, x, key, value)
		if !same(y, spelledPut(x, key, value)) {
			t.Fatalf("%q into %s: %s", key, drawing(x), drawing(y))
		}
		mustGet(t, y, key, value)
		pairs[key] = value
		mustHold(t, "after an insertion", y, pairs)
		return y
	}
	_, had := pairs[key]
	y, was, err := avl.Delete(x, []byte(key))
	if want, _ := spelledDelete(x, key); err != nil || was != had || !same(y, want) {
		t.Fatalf("%q from %s: %s, %v, %v", key, drawing(x), drawing(y), was, err)
	}
	delete(pairs, key)
	mustMiss(t, y, key)
	mustHold(t, "after a deletion", y, pairs)
	return y
}

func TestRandomChanges(t *testing.T) {
	for seed := range 20 {
		r := rand.New(rand.NewSource(int64(seed)))
		x, pairs := none, map[string]string{}
		keys := []int{3, 10, 30, 100, 1 << 30}[seed%5]
		for i := range 300 {
			key := string(filled(r.Intn(4), uint32(r.Intn(keys))))
			if keys > 100 {
				key = string(filled(r.Intn(81), uint32(r.Intn(keys))))
			}
			// First the tree grows, then it shrinks.
			put := r.Intn(300) > i
			x = change(t, x, pairs, put, key, string(filled(r.Intn(1025), r.Uint32())))
		}
		for _, key := range slices.Sorted(maps.Keys(pairs)) {
			mustGet(t, x, key, pairs[key])
		}
	}
}

// TestAllInAndAllOut: in every order of in and out.
func TestAllInAndAllOut(t *testing.T) {
	const n = 63
	key := func(i int) string { return fmt.Sprintf("%03d", i) }
	orders := map[string]func(int) int{
		"rising":   func(i int) int { return i },
		"falling":  func(i int) int { return n - 1 - i },
		"shuffled": func(i int) int { return i * 50 % n },
		"inwards":  func(i int) int { return []int{i / 2, n - 1 - i/2}[i%2] },
	}
	for in, into := range orders {
		for out, from := range orders {
			x, pairs := none, map[string]string{}
			for i := range n {
				x = change(t, x, pairs, true, key(into(i)), "1")
				x = change(t, x, pairs, true, key(into(i)), in+out)
			}
			if d := tree.Depth(x); (in == "rising" || in == "falling") && d != 6 {
				t.Errorf("%d keys, %s: the depth is %d", n, in, d)
			}
			for i := range n {
				x = change(t, x, pairs, false, key(from(i)), "")
				x = change(t, x, pairs, false, key(from(i)), "")
			}
			if !same(x, none) {
				t.Errorf("%s in, %s out: %s is left", in, out, drawing(x))
			}
		}
	}
}

// TestDepthOfManyPairs: a balanced tree of so many nodes is not deeper than 1.45
// times the logarithm of their number.
func TestDepthOfManyPairs(t *testing.T) {
	x := none
	for i := range 1500 {
		x = mustPut(t, x, fmt.Sprintf("%05d", i*i%10007), "")
	}
	n := len(pairsOf(x))
	if d := tree.Depth(x); !avl.Is(x) || float64(d) > 1.45*math.Log2(float64(n+2)) {
		t.Errorf("the depth of %d nodes is %d", n, d)
	}
}

// treeOf makes a tree of any bytes, mostly one that is nearly balanced.
func treeOf(b []byte) api.Tree {
	next := func() int {
		if len(b) == 0 {
			return 0
		}
		n := int(b[0])
		b = b[1:]
		return n
	}
	key := 0
	var part func(left int) api.Tree
	part = func(left int) api.Tree {
		first := next()
		switch {
		case left <= 0 || first == 255:
			return none
		case first == 254:
			return api.Tree{Kind: 3, Digest: filled(next()%40, 1)}
		case first == 253:
			return api.Tree{Kind: next() % 5, Key: filled(next()%90, 2), Kids: make([]api.Tree, next()%4)}
		}
		l := part(left - 1 - first>>6&1)
		key += []int{1, 1, 1, 1, 1, 2, 3, 0}[first%8]
		out := node(l, string([]byte{byte(key)}), fmt.Sprint(first), none)
		out.Kids[1] = part(left - 1 - first>>7&1)
		if first == 252 {
			out.Kind = 2
		}
		return out
	}
	return part(next() % 7)
}

// mustAgree holds all functions against the document's words.
func mustAgree(t testing.TB, x api.Tree, key, value []byte) {
	t.Helper()
	is := spelledIs(x)
	if avl.Is(x) != is {
		t.Errorf("Is of %v = %v", x, avl.Is(x))
	}
	switch {
	case !is:
		mustRefuse(t, "an unbalanced tree", x, key, value, api.ErrForm)
	case len(key) > 80 || len(value) > 1024:
		if len(key) <= 80 {
			mustChange(t, x, string(key), "")
		}
		mustRefuse(t, "a long key or value", x, key, value, api.ErrArg)
	default:
		mustChange(t, x, string(key), string(value))
		i := slices.IndexFunc(pairsOf(x), func(p api.Pair) bool { return bytes.Equal(p.Key, key) })
		if i < 0 {
			mustMiss(t, x, string(key))
		} else {
			mustGet(t, x, string(key), string(pairsOf(x)[i].Value))
		}
	}
}

func TestAllCallsOnAnyTree(t *testing.T) {
	balanced := 0
	for i := range 6000 {
		x := treeOf(filled(i%60, uint32(i)))
		if avl.Is(x) && x.Kind != 0 {
			balanced++
		}
		mustAgree(t, x, filled(i%3, uint32(i)), filled(i%1100, uint32(i)))
	}
	if balanced < 100 {
		t.Errorf("only %d of the trees are balanced", balanced)
	}
}

func FuzzAllCalls(f *testing.F) {
	f.Add([]byte{}, []byte("a"), []byte("1"))
	f.Add([]byte{3, 1, 1, 1, 1, 1, 1, 1, 1}, []byte{2}, []byte{})
	f.Add([]byte{4, 65, 1, 255, 1, 1, 129, 254}, []byte{}, filled(1025, 1))
	f.Add([]byte{5, 64, 64, 64, 64, 64, 64, 64}, []byte{5}, filled(3, 1))
	f.Fuzz(func(t *testing.T, b, key, value []byte) {
		x := treeOf(b[:min(len(b), 300)])
		before := wholeOf(x)
		mustAgree(t, x, key, value)
		if wholeOf(x) != before {
			t.Error("the tree was modified")
		}
	})
}

// FuzzChanges makes changes of any bytes: two bytes for each.
func FuzzChanges(f *testing.F) {
	f.Add([]byte{0, 1, 0, 2, 0, 3, 1, 2})
	f.Fuzz(func(t *testing.T, b []byte) {
		x, pairs := none, map[string]string{}
		for i := 0; i+1 < min(len(b), 200); i += 2 {
			x = change(t, x, pairs, b[i]%3 > 0, string(b[i+1:i+2]), fmt.Sprint(i))
		}
	})
}
