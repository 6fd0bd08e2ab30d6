package chunk_test

import (
	"bytes"
	"fmt"
	"slices"
	"testing"

	"heartwood/api"
	"heartwood/chunk"
	"heartwood/tree"
)

// The examples of the document.

func TestExamples(t *testing.T) {
	for _, x := range fullTrees(t) {
		if x.t.Kind == api.TreeNone {
			continue
		}
		mustCut(t, x.name, 1, x.t, 0, cutTo(1, x.t), []api.Tree{x.t})
		mustNotJoin(t, "one cut without parts", 1, cutTo(1, x.t), nil, api.ErrForm)
	}
	mustNotJoin(t, "one cut without parts", 1, cut([]byte{1}), nil, api.ErrForm)
	mustNotJoin(t, "one cut without parts", 1, cut([]byte{1}), []api.Tree{}, api.ErrForm)
}

// P11.1: Cut.

// TestDrawnHeads holds Cut against heads that are written by hand.
func TestDrawnHeads(t *testing.T) {
	a, c, e, g := leaf("a"), leaf("c"), leaf("e"), leaf("g")
	b := node(a, "b", "1", c)
	f := node(e, "f", "2", g)
	x := node(b, "d", "3", f)
	for _, w := range fewWidths {
		to := func(y api.Tree) api.Tree { return cutTo(w, y) }
		for _, c := range []struct {
			what  string
			t     api.Tree
			n     int
			head  api.Tree
			parts []api.Tree
		}{
			{"nothing", none, 0, none, nil},
			{"nothing", none, 1, none, nil},
			{"nothing", none, 64, none, nil},
			{"one node", a, 0, to(a), []api.Tree{a}},
			{"one node", a, 1, a, nil},
			{"one node", a, 2, a, nil},
			{"seven nodes", x, 0, to(x), []api.Tree{x}},
			{"seven nodes", x, 1, node(to(b), "d", "3", to(f)), []api.Tree{b, f}},
			{"seven nodes", x, 2, node(node(to(a), "b", "1", to(c)), "d", "3", node(to(e), "f", "2", to(g))), []api.Tree{a, c, e, g}},
			{"seven nodes", x, 3, x, nil},
			{"seven nodes", x, 64, x, nil},
			{"only a left", node(b, "d", "3", none), 1, node(to(b), "d", "3", none), []api.Tree{b}},
			{"only a right", node(none, "d", "3", f), 1, node(none, "d", "3", to(f)), []api.Tree{f}},
			{"only a right", node(none, "d", "3", f), 2, node(none, "d", "3", node(to(e), "f", "2", to(g))), []api.Tree{e, g}},
			{"a right and less of a left", node(a, "d", "3", f), 2, node(a, "d", "3", node(to(e), "f", "2", to(g))), []api.Tree{e, g}},
			{"a left and less of a right", node(b, "d", "3", e), 2, node(node(to(a), "b", "1", to(c)), "d", "3", e), []api.Tree{a, c}},
			{"the outer ones", node(node(a, "b", "1", none), "d", "3", node(none, "f", "2", g)), 2,
				node(node(to(a), "b", "1", none), "d", "3", node(none, "f", "2", to(g))), []api.Tree{a, g}},
		} {
			mustCut(t, c.what, w, c.t, c.n, c.head, c.parts)
		}
	}
}

// TestAllLevels cuts at each level from -1 to 65, also what cannot be cut.
func TestAllLevels(t *testing.T) {
	trees := fullTrees(t)
	for _, x := range slices.Concat(partial(1), partial(31), partial(32), malformed(), tooDeep()) {
		trees = append(trees, x, named{x.name + " further down", places()[3].with(x.t)})
	}
	for _, x := range trees {
		for n := -1; n <= api.MaxDepth+1; n++ {
			for _, w := range []int{0, 1, 32, 33} {
				mustAgreeOnCut(t, x.name, w, x.t, n)
			}
		}
	}
}

func TestAllWidths(t *testing.T) {
	for w := -1; w <= api.MaxWidth+2; w++ {
		for _, x := range append(uneven(), named{"a complete tree", complete(4)}, named{"the empty tree", none}) {
			for n := range 5 {
				mustAgreeOnCut(t, x.name, w, x.t, n)
			}
		}
	}
}

func TestOtherArguments(t *testing.T) {
	trees := append(fullTrees(t), malformed()...)
	trees = append(append(trees, tooDeep()...), partial(32)...)
	for _, x := range trees {
		for _, n := range badLevels {
			mustNotCut(t, x.name, 32, x.t, n, api.ErrArg)
			mustNotCut(t, x.name, 1, x.t, n, api.ErrArg)
			mustNotCut(t, x.name, 0, x.t, n, api.ErrArg)
			mustNotCut(t, x.name, 33, x.t, n, api.ErrArg)
		}
		for _, w := range badWidths {
			for _, n := range []int{0, 1, 2, 63, 64} {
				mustNotCut(t, x.name, w, x.t, n, api.ErrArg)
			}
		}
	}
}

// TestCutsBelowTheLevelOfTheDepth: nothing lies below as many nodes as a tree
// has levels.
func TestCutsBelowTheLevelOfTheDepth(t *testing.T) {
	for _, x := range fullTrees(t) {
		depth := depthOf(x.t)
		for n := depth; n <= api.MaxDepth; n++ {
			mustCut(t, x.name, 32, x.t, n, x.t, nil)
		}
		if depth > 0 {
			_, parts, err := chunk.Cut(32, x.t, depth-1)
			if err != nil || len(parts) == 0 || slices.ContainsFunc(parts, func(p api.Tree) bool { return depthOf(p) != 1 }) {
				t.Errorf("%s at the level %d: %s, %v", x.name, depth-1, toldAll(parts), err)
			}
		}
	}
}

// TestTreesWithoutDigest: the error of tree.Digest, wherever it comes from.
func TestTreesWithoutDigest(t *testing.T) {
	for _, w := range []int{1, 32} {
		for _, n := range []int{0, 1, 2, 3, 50, 51, 64} {
			for _, p := range places() {
				for _, x := range malformed() {
					mustNotCut(t, x.name+" at "+p.name, w, p.with(x.t), n, api.ErrForm)
				}
				for _, x := range tooDeep() {
					mustNotCut(t, x.name+" at "+p.name, w, p.with(x.t), n, api.ErrDepth)
				}
			}
		}
	}
}

// TestTreesThatAreNotFull: a part that is there as a digest alone is ErrForm,
// whether it lies above the level or below it, and of whatever width it is.
func TestTreesThatAreNotFull(t *testing.T) {
	for _, width := range []int{0, 1, 2, 31, 32, 33} {
		for _, x := range partial(width) {
			for _, p := range places() {
				for _, n := range []int{0, 1, 2, 3, 4, 50, 51, 64} {
					for _, w := range []int{1, 2, 32} {
						mustNotCut(t, fmt.Sprintf("%s of %d bytes at %s", x.name, width, p.name), w, p.with(x.t), n, api.ErrForm)
					}
				}
			}
		}
	}
}

// TestFirstErrorsOfCut: a tree that is too deep and not full has the error of
// tree.Digest, and a level or a width that may not be has its own before that.
func TestFirstErrorsOfCut(t *testing.T) {
	bad := func(flaws, bit int) bool { return flaws>>bit&1 == 1 }
	for flaws := range 1 << 5 {
		w, n, x := 32, 1, leaf("a")
		want := error(nil)
		if bad(flaws, 4) {
			x, want = node(x, "b", "", cut(filled(32, 1))), api.ErrForm
		}
		if bad(flaws, 3) {
			x, want = node(api.Tree{Kind: 7}, "c", "", x), api.ErrForm
		}
		if bad(flaws, 2) {
			x, want = node(x, "d", "", stacked(64, none, right)), api.ErrDepth
		}
		if bad(flaws, 1) {
			n, want = 65, api.ErrArg
		}
		if bad(flaws, 0) {
			w, want = 33, api.ErrArg
		}
		what := fmt.Sprintf("a tree with the flaws %b", flaws)
		if want == nil {
			mustCut(t, what, w, x, n, x, nil)
		} else {
			mustNotCut(t, what, w, x, n, want)
		}
	}
}

// TestOrderOfTheParts: the keys of the parts, with those of the head between
// them, are the keys of the tree.
func TestOrderOfTheParts(t *testing.T) {
	for _, size := range []int{1, 2, 3, 4, 5, 7, 12, 20, 33, 64, 200} {
		x := grown(t, size)
		for n := range depthOf(x) + 2 {
			head, parts, err := chunk.Cut(32, x, n)
			if err != nil {
				t.Fatal(err)
			}
			var keys []string
			for _, part := range parts {
				for _, y := range tree.List(part) {
					keys = append(keys, string(y.Key))
				}
			}
			if !slices.IsSorted(keys) {
				t.Errorf("the parts of %d pairs at the level %d have the keys %q", size, n, keys)
			}
			for _, y := range tree.List(head) {
				keys = append(keys, string(y.Key))
			}
			slices.Sort(keys)
			if len(slices.Compact(keys)) != size || len(tree.List(head)) > 1<<n-1 {
				t.Errorf("%d pairs at the level %d have the keys %q", size, n, keys)
			}
			for i := 1; i < len(parts); i++ {
				before, after := tree.List(parts[i-1]), tree.List(parts[i])
				if bytes.Compare(before[len(before)-1].Key, after[0].Key) >= 0 {
					t.Errorf("the part %d of %d pairs at the level %d does not follow the one before it", i, size, n)
				}
			}
		}
	}
}

// P11.1: Count.

// heads are trees with so many TreeCuts.
func heads() []struct {
	name  string
	t     api.Tree
	count int
} {
	c := func(n int) api.Tree { return cut(filled(n, uint32(n))) }
	d := filled(32, 100)
	return []struct {
		name  string
		t     api.Tree
		count int
	}{
		{"the empty tree", none, 0},
		{"one node", leaf("a"), 0},
		{"a complete tree", complete(4), 0},
		{"one dark node", dark(none, "a", d, none), 0},
		{"dark nodes alone", dark(dark(none, "a", d, none), "b", d, dark(none, "c", nil, none)), 0},
		{"64 nodes", stacked(64, none, zigzag), 0},
		{"one cut", c(32), 1},
		{"one cut of no byte", c(0), 1},
		{"one cut of many bytes", c(5000), 1},
		{"one cut to the left", node(c(32), "a", "", none), 1},
		{"one cut to the right", node(leaf("a"), "b", "", c(1)), 1},
		{"one cut below a dark node", dark(none, "b", d, c(2)), 1},
		{"one cut below 64 nodes", stacked(64, c(32), zigzag), 1},
		{"one cut below 64 nodes to the left", stacked(64, c(32), left), 1},
		{"one cut beside a dark node", node(dark(none, "a", d, none), "b", "", c(32)), 1},
		{"two cuts", node(c(32), "a", "", c(32)), 2},
		{"two cuts below a dark node", dark(c(1), "a", d, c(33)), 2},
		{"two cuts at unlike depths", node(c(32), "a", "", node(none, "b", "", c(31))), 2},
		{"three cuts at unlike depths", node(node(c(1), "a", "", node(c(2), "b", "", leaf("c"))), "d", "", c(3)), 3},
		{"three cuts, dark nodes between them", node(dark(c(1), "a", d, node(c(2), "b", "", leaf("c"))), "d", "", dark(leaf("e"), "f", d, c(3))), 3},
		{"four cuts", node(node(c(1), "a", "", c(1)), "b", "", dark(c(1), "c", nil, c(1))), 4},
		{"65 cuts", stackedCuts(64), 65},
	}
}

// stackedCuts is a way of n nodes with a TreeCut beside each, and one below.
func stackedCuts(n int) api.Tree {
	x := cut(filled(32, 0))
	for i := range n {
		beside := cut(filled(32, uint32(i+1)))
		if i%3 == 0 {
			x = node(beside, fmt.Sprint(n-i), "", x)
		} else {
			x = node(x, fmt.Sprint(n-i), "", beside)
		}
	}
	return x
}

func TestCounts(t *testing.T) {
	for _, h := range heads() {
		mustCount(t, h.name, h.t, h.count)
		if spelledCount(h.t) != h.count {
			t.Errorf("%s has %d cuts by the document's words", h.name, spelledCount(h.t))
		}
	}
}

// TestCountsOfTwo: the cuts of both sides are counted, whatever is on the other.
func TestCountsOfTwo(t *testing.T) {
	for _, a := range heads() {
		for _, b := range heads() {
			want := a.count + b.count
			if depthOf(a.t) == 64 || depthOf(b.t) == 64 {
				want = 0
			}
			mustCount(t, a.name+" beside "+b.name, node(a.t, "k", "v", b.t), want)
			mustCount(t, a.name+" beside "+b.name+", dark", dark(a.t, "k", nil, b.t), want)
		}
	}
}

func TestCountsOfWhatIsNoTree(t *testing.T) {
	for _, x := range append(malformed(), tooDeep()...) {
		for _, p := range places() {
			mustCount(t, x.name+" at "+p.name, p.with(x.t), 0)
			mustCount(t, x.name+" beside a cut at "+p.name, p.with(node(cut(filled(32, 1)), "k", "", x.t)), 0)
			mustCount(t, x.name+" before a cut at "+p.name, p.with(dark(x.t, "k", nil, cut(filled(32, 1)))), 0)
		}
	}
}

func TestCountsOfHeads(t *testing.T) {
	for _, x := range fullTrees(t) {
		for n := 0; n <= api.MaxDepth; n++ {
			head, parts, err := chunk.Cut(1, x.t, n)
			if err != nil {
				t.Fatal(err)
			}
			mustCount(t, fmt.Sprintf("the head of %s at %d", x.name, n), head, len(parts))
		}
	}
}
