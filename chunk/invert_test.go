package chunk_test

import (
	"bytes"
	"fmt"
	"slices"
	"testing"

	"heartwood/api"
	"heartwood/chunk"
)

// P11.5: Join inverts Cut, and keeps the digest.

// smallTrees are all full trees of n nodes with these keys and values.
func smallTrees(n int, some []string) []api.Tree {
	if n == 0 {
		return []api.Tree{none}
	}
	var out []api.Tree
	for l := range n {
		for _, x := range smallTrees(l, some) {
			for _, y := range smallTrees(n-1-l, some) {
				for _, s := range some {
					out = append(out, node(x, s, s+"v", y))
				}
			}
		}
	}
	return out
}

// TestAllSmallTrees: all shapes of up to four nodes at all levels and widths,
// and more trees at some of them.
func TestAllSmallTrees(t *testing.T) {
	for n := range 5 {
		some := []string{"", "b"}
		for _, x := range smallTrees(n, some[n/4:]) {
			for w := 1; w <= api.MaxWidth; w++ {
				for level := range n + 2 {
					mustInvert(t, "a small tree", w, x, level)
				}
			}
			for level := range api.MaxDepth + 1 {
				mustAgreeOnCut(t, "a small tree", 1, x, level)
				mustInvert(t, "a small tree", 32, x, level)
			}
		}
	}
	for _, x := range append(smallTrees(4, []string{"k", "l"}), smallTrees(6, []string{"m"})...) {
		for level := range 8 {
			mustAgreeOnCut(t, "a small tree", 32, x, level)
			mustInvert(t, "a small tree", 1, x, level)
		}
	}
}

func TestAllFullTrees(t *testing.T) {
	for _, x := range fullTrees(t) {
		for level := range api.MaxDepth + 1 {
			mustInvert(t, x.name, fewWidths[level%len(fewWidths)], x.t, level)
		}
	}
}

// headsOf are all heads of a tree, whether Cut makes them or not, each with its
// parts: any parts that are not empty may be left out.
func headsOf(w int, x api.Tree) (heads []api.Tree, parts [][]api.Tree) {
	if x.Kind == api.TreeNone {
		return []api.Tree{x}, [][]api.Tree{nil}
	}
	heads, parts = []api.Tree{cutTo(w, x)}, [][]api.Tree{{x}}
	lefts, leftParts := headsOf(w, x.Kids[0])
	rights, rightParts := headsOf(w, x.Kids[1])
	for i, l := range lefts {
		for j, r := range rights {
			heads = append(heads, node(l, string(x.Key), string(x.Value), r))
			parts = append(parts, slices.Concat(leftParts[i], rightParts[j]))
		}
	}
	return heads, parts
}

// TestAllHeadsOfSmallTrees joins those too that Cut does not make, and with each
// of the parts changed.
func TestAllHeadsOfSmallTrees(t *testing.T) {
	count := 0
	for n := range 5 {
		for _, x := range smallTrees(n, []string{"k", "l"}) {
			for _, w := range []int{1, 8, 32} {
				heads, parts := headsOf(w, x)
				for i, head := range heads {
					count++
					mustJoin(t, "any head", w, head, parts[i], x)
					mustHaveTheDigest(t, "any head", w, head, parts[i])
					mustCount(t, "any head", head, len(parts[i]))
					for j := range parts[i] {
						mustFit(t, "any head", w, head, j, parts[i][j], nil)
						others := slices.Clone(parts[i])
						others[j] = leaf("other")
						mustAgreeOnJoin(t, "any head", w, head, others)
						others[j] = none
						mustNotJoin(t, "any head", w, head, others, api.ErrForm)
					}
				}
			}
		}
	}
	if count < 4000 {
		t.Errorf("only %d heads", count)
	}
}

// TestOtherTreesWithTheDigestOfTheHead: with short digests another part may fit.
// What Join returns is then another tree, with the same digest all the same.
func TestOtherTreesWithTheDigestOfTheHead(t *testing.T) {
	found := 0
	for _, x := range append(uneven(), named{"a complete tree", complete(4)}) {
		for n := range 4 {
			head, parts := cutUp(1, x.t, n)
			for i := range parts {
				for salt := range 2000 {
					other := leaf(fmt.Sprint("other ", salt))
					if !bytes.Equal(digestOf(1, other), digestOf(1, parts[i])) {
						continue
					}
					found++
					others := slices.Clone(parts)
					others[i] = other
					mustFit(t, x.name, 1, head, i, other, nil)
					mustHaveTheDigest(t, x.name, 1, head, others)
					mustAgreeOnJoin(t, x.name, 1, head, others)
					if y, _ := chunk.Join(1, head, others); same(y, x.t) {
						t.Errorf("%s has lost its part %d", x.name, i)
					}
					break
				}
			}
		}
	}
	if found < 50 {
		t.Errorf("only %d other parts", found)
	}
}

// TestLargeTrees: at each level, with as many parts as there can be.
func TestLargeTrees(t *testing.T) {
	for _, x := range []named{{"1000 pairs", grown(t, 1000)}, {"11 levels", complete(11)}} {
		for n := range 13 {
			mustInvert(t, x.name, 32, x.t, n)
		}
		for _, n := range []int{1, 6, 10} {
			mustAgreeOnCut(t, x.name, 32, x.t, n)
		}
	}
}

// TestPartsOfParts: a part is a tree, which may be cut again.
func TestPartsOfParts(t *testing.T) {
	x := grown(t, 200)
	head, parts, err := chunk.Cut(32, x, api.Level)
	if err != nil || len(parts) != 4 {
		t.Fatal(len(parts), err)
	}
	for i, part := range parts {
		inner, smaller, err := chunk.Cut(32, part, 3)
		if err != nil {
			t.Fatal(err)
		}
		mustFit(t, "the head of a part", 32, head, i, inner, api.ErrForm)
		if parts[i], err = chunk.Join(32, inner, smaller); err != nil {
			t.Fatal(err)
		}
		// The heads of all parts, laid into the head, are one head more.
		deeper := put(head, waysTo(head, api.TreeCut)[i], inner)
		mustAgreeOnJoin(t, "a head that is cut more deeply", 32, deeper, slices.Concat(parts[:i], smaller, parts[i+1:]))
	}
	mustJoin(t, "parts that were cut and joined", 32, head, parts, x)
}
