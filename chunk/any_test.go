package chunk_test

import (
	"math/rand"
	"slices"
	"testing"

	"heartwood/api"
	"heartwood/tree"
)

// P11.1 to P11.5 on any trees.

// drawn is a full tree of at most some depth, drawn at random.
func drawn(r *rand.Rand, depth int) api.Tree {
	if depth == 0 || r.Intn(5) == 0 {
		return none
	}
	l := drawn(r, depth-1)
	return node(l, string(filled(r.Intn(6), r.Uint32())), string(filled(r.Intn(9), r.Uint32())), drawn(r, depth-1))
}

// cutAnywhere replaces parts of a full tree, drawn at random, by TreeCuts.
func cutAnywhere(r *rand.Rand, w int, x api.Tree) (head api.Tree, parts []api.Tree) {
	if x.Kind == api.TreeNone {
		return x, nil
	}
	if r.Intn(4) == 0 {
		return cutTo(w, x), []api.Tree{x}
	}
	l, leftParts := cutAnywhere(r, w, x.Kids[0])
	right, rightParts := cutAnywhere(r, w, x.Kids[1])
	return node(l, string(x.Key), string(x.Value), right), append(leftParts, rightParts...)
}

// changed makes a small change to a head or to its parts.
func changed(r *rand.Rand, w int, head api.Tree, parts []api.Tree) (api.Tree, []api.Tree) {
	parts = slices.Clone(parts)
	all := ways(head)
	way := all[r.Intn(len(all))]
	i, j := 0, 0
	if len(parts) > 0 {
		i, j = r.Intn(len(parts)), r.Intn(len(parts))
	}
	flaws := append(flawedParts(w, leaf("p")), flawed{named{"a part", leaf("p")}, nil})
	flaw := flaws[r.Intn(len(flaws))].t
	switch c := r.Intn(9); {
	case c == 0:
		head = put(head, way, flaw)
	case c == 1:
		head = put(head, way, cut(filled(r.Intn(34), r.Uint32())))
	case c == 2:
		head = put(head, way, dark(at(head, way), "d", filled(w, r.Uint32()), none))
	case c == 3:
		head = put(head, way, node(none, "n", "", at(head, way)))
	case c == 4:
		parts = slices.Insert(parts, j, flaw)
	case len(parts) == 0:
	case c == 5:
		parts[i], parts[j] = parts[j], parts[i]
	case c == 6:
		parts = slices.Delete(parts, i, i+1)
	case c == 7:
		parts[i] = flaw
	case c == 8:
		parts[i] = stacked(50+r.Intn(16), parts[i], zigzag)
		head = put(head, waysTo(head, api.TreeCut)[min(i, len(waysTo(head, api.TreeCut))-1)], cut(fitting(w, parts[i])))
	}
	return head, parts
}

// fitting is the digest of a part, or any bytes if it has none.
func fitting(w int, part api.Tree) []byte {
	if tree.Check(part) != nil {
		return filled(w, 1)
	}
	return digestOf(w, part)
}

// TestDrawnHeadsAndParts makes small changes to what fits.
func TestDrawnHeadsAndParts(t *testing.T) {
	r := rand.New(rand.NewSource(11))
	met := map[error]int{}
	for i := range 3000 {
		w := fewWidths[r.Intn(len(fewWidths))]
		x := drawn(r, 1+i%7)
		head, parts := cutAnywhere(r, w, x)
		mustJoin(t, "a drawn head", w, head, parts, x)
		mustHaveTheDigest(t, "a drawn head", w, head, parts)
		if len(waysTo(head, api.TreeCut)) != len(parts) {
			t.Fatal("parts without a cut")
		}
		if r.Intn(8) > 0 {
			head, parts = changed(r, w, head, parts)
		}
		met[mustAgreeOnJoin(t, "a changed head", w, head, parts)]++
		mustCount(t, "a changed head", head, spelledCount(head))
		for k, part := range parts[:min(len(parts), 3)] {
			mustAgreeOnFits(t, "a changed head", w, head, k, part)
			mustAgreeOnFits(t, "a changed head", w, head, k+len(parts)-1, part)
		}
		mustAgreeOnCut(t, "a changed head", w, head, r.Intn(6))
		mustAgreeOnCut(t, "a drawn tree", w, x, r.Intn(8))
	}
	for _, err := range []error{nil, api.ErrForm, api.ErrDepth, api.ErrRoot} {
		if met[err] < 100 {
			t.Errorf("the changed heads met only %v", met)
		}
	}
}

// treeOf makes a tree of any bytes, well-formed or not.
func treeOf(b []byte) (api.Tree, []byte) {
	next := func() int {
		if len(b) == 0 {
			return 0
		}
		n := int(b[0])
		b = b[1:]
		return n
	}
	var part func(most int) api.Tree
	part = func(most int) api.Tree {
		c := next()
		switch {
		case most == 0 || c%8 == 0:
			return none
		case c%8 < 6:
			l := part(most - 1)
			return node(l, string(filled(c/8%5, uint32(c))), string(filled(c/64, uint32(c))), part(most-1))
		case c < 64:
			return cut(filled(next()%34, uint32(c)))
		case c < 128:
			l := part(most - 1)
			return dark(l, string(filled(next()%81, uint32(c))), filled(next()%33, uint32(c)), part(most-1))
		case c < 160:
			return stacked(next()%70, part(most-1), zigzag)
		}
		return api.Tree{Kind: next()%6 - 1, Digest: filled(next()%3, 3), Kids: []api.Tree{part(most - 1), part(most - 1)}[:c%3]}
	}
	x := part(9)
	return x, b
}

// headOf makes a head and its parts of a full tree and any bytes.
func headOf(w int, x api.Tree, b []byte) (api.Tree, []api.Tree, []byte) {
	if x.Kind == api.TreeNone || len(x.Kids) != 2 {
		return x, nil, b
	}
	c := 1
	if len(b) > 0 {
		c, b = int(b[0]), b[1:]
	}
	if c%4 == 0 && isFull(x) && tree.Check(x) == nil {
		return cut(digestOf(w, x)), []api.Tree{x}, b
	}
	if c%64 == 63 {
		return cut(filled(c/8, 1)), []api.Tree{x}, b
	}
	l, leftParts, b := headOf(w, x.Kids[0], b)
	r, rightParts, b := headOf(w, x.Kids[1], b)
	x.Kids = []api.Tree{l, r}
	return x, append(leftParts, rightParts...), b
}

// mustAgreeOnBytes holds all calls on what bytes make against the document's
// words.
func mustAgreeOnBytes(t testing.TB, b []byte) {
	t.Helper()
	w, n := 32, 0
	if len(b) > 2 {
		w, n, b = int(b[0])%35, int(b[1])%68-1, b[2:]
	}
	x, b := treeOf(b)
	before := whole(x)
	mustAgreeOnCut(t, "any tree", w, x, n)
	mustCount(t, "any tree", x, spelledCount(x))
	if _, _, err := spelledCut(w, x, n); err == nil {
		mustInvert(t, "any tree", w, x, n)
	}
	head, parts, b := headOf(max(1, min(w, 32)), x, b)
	mustAgreeOnJoin(t, "any head", w, head, parts)
	y, _ := treeOf(b)
	mustAgreeOnFits(t, "any head and part", w, head, n, y)
	for i, part := range append(parts, y) {
		mustAgreeOnFits(t, "any head", w, head, i, part)
		others := append(slices.Clone(parts), y)
		mustAgreeOnJoin(t, "any head and parts", w, head, slices.Delete(others, i, i+1))
	}
	if whole(x) != before {
		t.Error("the tree was modified")
	}
}

func TestAllCallsOnAnything(t *testing.T) {
	for i := range 3000 {
		mustAgreeOnBytes(t, filled(i%80, uint32(i)))
	}
}

// FuzzAllCalls holds all calls against the document's words.
func FuzzAllCalls(f *testing.F) {
	f.Add([]byte{})
	f.Add([]byte("\x20\x02\x01\x01\x00\x00\x01\x00\x00"))
	f.Add([]byte("\x01\x03\x01\x01\x00\x00\x01\x00\x00\x01\x04\x04\x02\x00\x00"))
	f.Add([]byte("\x20\x41\x86\x40\x00\x00\x00\x04\x04"))
	f.Add([]byte("\x02\x01\x09\x09\x00\x00\x11\x00\x00\x01\x04\x04\x3f"))
	f.Fuzz(func(t *testing.T, b []byte) {
		mustAgreeOnBytes(t, b[:min(len(b), 200)])
	})
}
