package chunk_test

import (
	"errors"
	"fmt"
	"testing"

	"heartwood/api"
	"heartwood/chunk"
	"heartwood/tree"
)

// P11.4: memory.

// roomyBytes is a copy with room behind it that is not the callee's.
func roomyBytes(b []byte) []byte {
	return append(append(make([]byte, 0, len(b)+8), b...), "sentinel"...)[:len(b)]
}

// roomy is a copy of a tree that shares no memory with it, or with itself, and
// has room behind each list.
func roomy(x api.Tree) api.Tree {
	x.Key, x.Value, x.Digest = roomyBytes(x.Key), roomyBytes(x.Value), roomyBytes(x.Digest)
	kids := make([]api.Tree, len(x.Kids), len(x.Kids)+2)
	for i, kid := range x.Kids {
		kids[i] = roomy(kid)
	}
	copy(kids[len(kids):cap(kids)], []api.Tree{leaf("room"), leaf("more room")})
	x.Kids = kids
	return x
}

func roomyList(list []api.Tree) []api.Tree {
	out := make([]api.Tree, len(list), len(list)+2)
	for i, x := range list {
		out[i] = roomy(x)
	}
	copy(out[len(out):cap(out)], []api.Tree{leaf("room"), leaf("more room")})
	return out
}

// whole tells all of a tree, and what lies behind its lists.
func whole(x api.Tree) string { return string(appendWhole(nil, x)) }

func wholeList(list []api.Tree) string { return string(appendWholeList(nil, list)) }

func appendWhole(out []byte, x api.Tree) []byte {
	out = fmt.Append(out, x.Kind)
	for _, b := range [][]byte{x.Key, x.Value, x.Digest} {
		out = fmt.Append(out, ",", len(b), ",")
		out = append(out, b[:cap(b)]...)
	}
	return appendWholeList(out, x.Kids)
}

func appendWholeList(out []byte, list []api.Tree) []byte {
	out = fmt.Append(out, "(", len(list), ":")
	for _, x := range list[:cap(list)] {
		out = appendWhole(out, x)
	}
	return append(out, ')')
}

// scrub changes all memory of a tree.
func scrub(x api.Tree) {
	for _, b := range [][]byte{x.Key, x.Value, x.Digest} {
		for i := range b {
			b[i] ^= 0xff
		}
	}
	for i := range x.Kids {
		scrub(x.Kids[i])
		x.Kids[i] = api.Tree{Kind: 99}
	}
}

// anyTrees are trees of all kinds, good ones and others.
func anyTrees(t testing.TB) []named {
	out := []named{{"65 levels", stacked(65, none, zigzag)}, {"one malformed", node(api.Tree{Kind: 7, Key: []byte("k")}, "k", "v", leaf("a"))}}
	out = append(append(out, uneven()...), partial(32)...)
	return append(out, named{"the empty tree", none}, named{"64 levels", stacked(64, none, left)}, named{"20 pairs", grown(t, 20)})
}

func TestCutLeavesItsArgument(t *testing.T) {
	for _, x := range anyTrees(t) {
		for _, w := range []int{0, 1, 32} {
			for _, n := range []int{-1, 0, 1, 2, 3, 64, 65} {
				y := roomy(x.t)
				before := whole(y)
				chunk.Cut(w, y, n)
				chunk.Count(y)
				if whole(y) != before {
					t.Errorf("Cut(%d, %s, %d) or Count has changed the tree", w, x.name, n)
				}
			}
		}
	}
}

func TestJoinAndFitsLeaveTheirArguments(t *testing.T) {
	trees := append(anyTrees(t)[:5], partial(32)...)
	trees = append(trees, named{"the empty tree", none}, named{"7 pairs", grown(t, 7)})
	for _, x := range trees {
		for _, y := range trees {
			heads := []api.Tree{y.t, x.t}
			if _, err := tree.Digest(32, y.t); err == nil {
				heads = append(heads, cutTo(32, y.t), node(cutTo(32, y.t), "k", "v", x.t), node(x.t, "k", "v", cutTo(32, y.t)))
			}
			for _, h := range heads {
				for _, list := range [][]api.Tree{nil, {y.t}, {y.t, x.t}, {x.t, y.t}} {
					for _, w := range []int{32, 33} {
						head, parts := roomy(h), roomyList(list)
						before := whole(head) + wholeList(parts)
						chunk.Join(w, head, parts)
						for i, part := range parts {
							chunk.Fits(w, head, i, part)
						}
						if whole(head)+wholeList(parts) != before {
							t.Errorf("Join or Fits has changed %s or %s", told(h), toldAll(list))
						}
					}
				}
			}
		}
	}
}

// TestCutAndJoinLeaveTheirArguments: where there is much to be replaced.
func TestCutAndJoinLeaveTheirArguments(t *testing.T) {
	x := grown(t, 50)
	for n := range 8 {
		y := roomy(x)
		before := whole(y)
		head, parts, err := chunk.Cut(32, y, n)
		if err != nil || whole(y) != before {
			t.Errorf("Cut at %d has changed the tree, or %v", n, err)
		}
		head, parts = roomy(head), roomyList(parts)
		before = whole(head) + wholeList(parts)
		joined, err := chunk.Join(32, head, parts)
		if err != nil || whole(head)+wholeList(parts) != before || !same(joined, x) {
			t.Errorf("Join at %d has changed its arguments, or %v", n, err)
		}
	}
}

// TestHeadAndPartsAreApart: they share memory with the tree, but not with each
// other, so that each may be handed to somebody else.
func TestHeadAndPartsAreApart(t *testing.T) {
	x := grown(t, 50)
	for n := range 7 {
		wantHead, wantParts := cutUp(32, x, n)
		for change := -1; change < len(wantParts); change++ {
			head, parts, err := chunk.Cut(32, roomy(x), n)
			if err != nil {
				t.Fatal(err)
			}
			if change < 0 {
				scrub(head)
			} else {
				scrub(parts[change])
			}
			for i := range parts {
				if i != change && !same(parts[i], wantParts[i]) {
					t.Errorf("at the level %d the part %d shares memory with %d", n, i, change)
				}
			}
			if change >= 0 && !same(head, wantHead) {
				t.Errorf("at the level %d the head shares memory with the part %d", n, change)
			}
		}
	}
}

// TestDigestsOfHeadsAreApart: each TreeCut has a digest of its own.
func TestDigestsOfHeadsAreApart(t *testing.T) {
	same2 := node(leaf("a"), "b", "", leaf("a"))
	for _, x := range []api.Tree{same2, grown(t, 50), complete(4)} {
		for n := range 4 {
			before := whole(x)
			want, _ := cutUp(32, x, n)
			head, _, err := chunk.Cut(32, x, n)
			if err != nil {
				t.Fatal(err)
			}
			for _, way := range waysTo(head, api.TreeCut) {
				digest := at(head, way).Digest
				for i := range digest[:cap(digest)] {
					digest[:cap(digest)][i] ^= 0xff
				}
				for _, other := range waysTo(head, api.TreeCut) {
					if other != way && !same(at(head, other), at(want, other)) {
						t.Errorf("the digests at %q and %q share memory", way, other)
					}
				}
				for i := range digest[:cap(digest)] {
					digest[:cap(digest)][i] ^= 0xff
				}
			}
			if whole(x) != before {
				t.Error("a digest shares memory with the tree")
			}
		}
	}
}

// TestNothingIsRetained: calls answer by their arguments alone, whatever became
// of those of the calls before.
func TestNothingIsRetained(t *testing.T) {
	x, y := grown(t, 30), complete(4)
	for range 3 {
		for n := range 5 {
			z := roomy(x)
			head, parts, err := chunk.Cut(32, z, n)
			if err != nil {
				t.Fatal(err)
			}
			scrub(z)
			scrub(head)
			for i := range parts {
				scrub(parts[i])
				parts[i] = none
			}
			mustAgreeOnCut(t, "a tree after another one", 32, x, n)
			head, parts = cutUp(32, y, n)
			head, parts = roomy(head), roomyList(parts)
			joined, err := chunk.Join(32, head, parts)
			if err != nil || !same(joined, y) {
				t.Errorf("Join at %d: %s, %v", n, told(joined), err)
			}
			scrub(head)
			for i := range parts {
				scrub(parts[i])
			}
			head, parts = cutUp(32, y, n)
			mustJoin(t, "a tree once more", 32, head, parts, y)
			mustCount(t, "a head once more", head, len(parts))
		}
	}
}

// TestErrorsAreApart: the Spot of one call is not that of the next one.
func TestErrorsAreApart(t *testing.T) {
	a, b := leaf("a"), leaf("b")
	head := node(cutTo(32, a), "k", "", cutTo(32, b))
	_, first := chunk.Join(32, head, []api.Tree{b, a})
	_, second := chunk.Join(32, head, []api.Tree{a, a})
	spotted(t, "the first call", first, 0)
	spotted(t, "the second call", second, 1)
	var spot *api.Spot
	if errors.As(first, &spot) {
		spot.At, spot.Err = 7, api.ErrNone
	}
	_, third := chunk.Join(32, head, []api.Tree{b, a})
	spotted(t, "the third call", third, 0)
	spotted(t, "the second call", second, 1)
}

// TestPartsThatShareMemory: one part may be handed in more than once, and the
// head may share memory with its parts.
func TestPartsThatShareMemory(t *testing.T) {
	part := roomy(complete(3))
	head := roomy(node(node(cutTo(32, part), "1", "", cutTo(32, part)), "2", "", node(cutTo(32, part), "3", "", part)))
	before := whole(head) + whole(part)
	mustJoin(t, "one part thrice", 32, head, []api.Tree{part, part, part},
		node(node(part, "1", "", part), "2", "", node(part, "3", "", part)))
	x := node(part, "1", "", part)
	for n := range 6 {
		mustAgreeOnCut(t, "a tree that has a part twice", 32, x, n)
		mustInvert(t, "a tree that has a part twice", 32, x, n)
	}
	all := []api.Tree{part, part, cutTo(32, part)}
	mustJoin(t, "parts beside the head in one list", 32, all[2], all[:1], part)
	if whole(head)+whole(part) != before {
		t.Error("a shared argument was changed")
	}
}
