package chunk_test

import (
	"bytes"
	"fmt"
	"math"
	"slices"
	"testing"

	"heartwood/api"
)

// P11.2: Fits.

// TestPartsThatFit: each part fits at its place, and at no other place unless
// the same part is there too.
func TestPartsThatFit(t *testing.T) {
	for _, x := range fullTrees(t) {
		for _, w := range []int{8, 32} {
			for _, n := range []int{0, 1, 2, 3, 5, 30, 63} {
				head, parts := cutUp(w, x.t, n)
				for i := range parts {
					for j := range parts {
						want := error(nil)
						if !same(parts[i], parts[j]) {
							want = api.ErrRoot
						}
						mustFit(t, x.name, w, head, i, parts[j], want)
					}
				}
			}
		}
	}
}

// TestPlacesThatThereAreNot: i is held against Count, and may be any number.
func TestPlacesThatThereAreNot(t *testing.T) {
	part := leaf("p")
	for _, h := range heads() {
		for _, i := range []int{-1, -2, -h.count, -h.count - 1, math.MinInt, h.count, h.count + 1, h.count + 100, 256 + h.count, 1<<32 + h.count, math.MaxInt} {
			if i >= 0 && i < h.count {
				continue
			}
			want := error(api.ErrNone)
			mustFit(t, h.name, 32, h.t, i, part, want)
			mustFit(t, h.name, 1, h.t, i, part, want)
		}
		for i := range h.count {
			mustFit(t, h.name, 32, h.t, i, part, api.ErrRoot)
		}
	}
	head := node(cutTo(32, part), "a", "", cutTo(32, part))
	for i, want := range map[int]error{-2: api.ErrNone, -1: api.ErrNone, 0: nil, 1: nil, 2: api.ErrNone, 3: api.ErrNone} {
		mustFit(t, "two cuts", 32, head, i, part, want)
	}
}

// TestFitsInTheOrderOfTheKeys puts all places of a head to the test, whose cuts
// lie at unlike depths, with dark nodes above and beside them.
func TestFitsInTheOrderOfTheKeys(t *testing.T) {
	p := []api.Tree{leaf("a"), complete(2), leaf("c"), stacked(5, none, zigzag), leaf("e")}
	for _, w := range []int{4, 32} {
		to := func(i int) api.Tree { return cutTo(w, p[i]) }
		for _, head := range []api.Tree{
			node(node(to(0), "1", "", node(to(1), "2", "", none)), "3", "", node(node(to(2), "4", "", to(3)), "5", "", to(4))),
			dark(dark(to(0), "1", nil, node(to(1), "2", "", leaf("x"))), "3", filled(w, 1), node(to(2), "4", "", dark(to(3), "5", filled(5, 2), to(4)))),
			node(to(0), "1", "", node(to(1), "2", "", node(to(2), "3", "", node(to(3), "4", "", to(4))))),
			node(node(node(node(to(0), "1", "", to(1)), "2", "", to(2)), "3", "", to(3)), "4", "", to(4)),
			dark(none, "0", nil, node(dark(node(leaf("x"), "y", "", to(0)), "1", nil, dark(to(1), "2", nil, to(2))), "3", "", node(none, "4", "", node(to(3), "5", "", to(4))))),
		} {
			mustCount(t, "a head", head, 5)
			for i := range p {
				for j := range p {
					want := error(nil)
					if i != j {
						want = api.ErrRoot
					}
					mustFit(t, fmt.Sprintf("the part %d", j), w, head, i, p[j], want)
				}
			}
		}
	}
}

// TestOtherDigests: what a TreeCut has instead of the digest of the part.
func TestOtherDigests(t *testing.T) {
	part := node(leaf("a"), "b", "1", none)
	for _, w := range []int{1, 2, 16, 31, 32} {
		d := digestOf(w, part)
		mustFit(t, "its digest", w, cut(d), 0, part, nil)
		for i := range 8 * w {
			other := bytes.Clone(d)
			other[i/8] ^= 1 << (i % 8)
			mustFit(t, fmt.Sprintf("a digest with another bit %d", i), w, cut(other), 0, part, api.ErrRoot)
		}
		for n := range api.MaxWidth + 1 {
			if n != w && n > 0 {
				mustFit(t, fmt.Sprintf("its digest of %d bytes", n), w, cutTo(n, part), 0, part, api.ErrRoot)
			}
		}
		mustFit(t, "no byte", w, cut(nil), 0, part, api.ErrRoot)
		mustFit(t, "a byte more", w, cut(append(bytes.Clone(d), 0)), 0, part, api.ErrRoot)
		mustFit(t, "a byte less", w, cut(d[:w-1]), 0, part, api.ErrRoot)
		mustFit(t, "its digest twice", w, cut(slices.Concat(d, d)), 0, part, api.ErrRoot)
		mustFit(t, "the digest of a part of it", w, cutTo(w, part.Kids[0]), 0, part, api.ErrRoot)
		mustFit(t, "the digest of nothing", w, cutTo(w, none), 0, part, api.ErrRoot)
		for i, other := range []api.Tree{
			node(leaf("a"), "b", "2", none), node(leaf("a"), "c", "1", none), node(none, "b", "1", leaf("a")), node(leaf("c"), "b", "1", none),
			node(leaf("a"), "b", "1", leaf("a")), node(none, "b", "1", none),
		} {
			if !bytes.Equal(digestOf(w, other), d) {
				mustFit(t, fmt.Sprintf("the other part %d", i), w, cut(d), 0, other, api.ErrRoot)
				mustMiss(t, fmt.Sprintf("the other part %d", i), w, cut(d), []api.Tree{other}, 0)
			}
		}
	}
}

// TestPartsThatAreNone: an empty part and one that is not full fit nowhere, not
// even where the digest is theirs.
func TestPartsThatAreNone(t *testing.T) {
	for _, w := range []int{1, 32} {
		empties := []named{{"the empty tree", none}, {"the empty tree with empty fields", api.Tree{Kids: []api.Tree{}, Key: []byte{}}}}
		for _, x := range append(partial(w), empties...) {
			head := node(cutTo(w, x.t), "k", "", cutTo(w, leaf("a")))
			for _, i := range []int{0, 1, 2, -1} {
				mustFit(t, x.name, w, head, i, x.t, api.ErrForm)
			}
			mustNotJoin(t, x.name, w, head, []api.Tree{x.t, leaf("a")}, api.ErrForm)
			mustFit(t, x.name, w, cutTo(w, x.t), 0, x.t, api.ErrForm)
			mustNotJoin(t, x.name, w, cutTo(w, x.t), []api.Tree{x.t}, api.ErrForm)
		}
		for _, p := range places()[1:] {
			for _, x := range partial(w) {
				part := p.with(x.t)
				mustFit(t, x.name+" at "+p.name, w, cutTo(w, part), 0, part, api.ErrForm)
				mustNotJoin(t, x.name+" at "+p.name, w, cutTo(w, part), []api.Tree{part}, api.ErrForm)
			}
			// The empty tree is no part, but parts may have it within them.
			part := p.with(none)
			mustFit(t, "nothing at "+p.name, w, cutTo(w, part), 0, part, nil)
			mustJoin(t, "nothing at "+p.name, w, cutTo(w, part), []api.Tree{part}, part)
		}
	}
}

// TestHeadsOfFits: dark nodes may be there, and cuts of any length; what
// tree.Check rejects may not.
func TestHeadsOfFits(t *testing.T) {
	part := complete(3)
	for _, p := range places() {
		for _, width := range []int{0, 1, 31, 32, 33, 100} {
			for _, x := range partial(width) {
				head := node(p.with(x.t), "z", "", cutTo(32, part))
				mustFit(t, fmt.Sprintf("%s of %d bytes at %s", x.name, width, p.name), 32, head, spelledCount(head)-1, part, nil)
				mustFit(t, fmt.Sprintf("%s of %d bytes at %s", x.name, width, p.name), 32, head, spelledCount(head), part, api.ErrNone)
			}
		}
		for _, x := range malformed() {
			for i := -1; i < 3; i++ {
				mustFit(t, x.name+" at "+p.name, 32, p.with(x.t), i, part, api.ErrForm)
				mustFit(t, x.name+" at "+p.name, 32, node(cutTo(32, part), "k", "", p.with(x.t)), i, part, api.ErrForm)
			}
		}
		for _, x := range tooDeep() {
			for i := -1; i < 3; i++ {
				mustFit(t, x.name+" at "+p.name, 32, node(cutTo(32, part), "k", "", p.with(x.t)), i, part, api.ErrDepth)
			}
		}
	}
	head := stacked(64, cutTo(32, part), zigzag)
	mustFit(t, "a cut below 64 nodes", 32, head, 0, part, nil)
	mustFit(t, "a part of 64 levels below 64 nodes", 32, stacked(64, cutTo(32, stacked(64, none, left)), zigzag), 0, stacked(64, none, left), nil)
}

// TestPartsWithoutDigest: the error of tree.Digest for the part.
func TestPartsWithoutDigest(t *testing.T) {
	for _, w := range []int{1, 32} {
		head := node(cut(filled(w, 1)), "k", "", cut(filled(w, 2)))
		for _, i := range []int{-1, 0, 1, 2} {
			for _, p := range places() {
				for _, x := range malformed() {
					mustFit(t, x.name+" at "+p.name, w, head, i, p.with(x.t), api.ErrForm)
				}
				for _, x := range tooDeep() {
					mustFit(t, x.name+" at "+p.name, w, head, i, p.with(x.t), api.ErrDepth)
				}
				for _, width := range []int{0, w - 1, w, w + 1} {
					for _, x := range partial(width) {
						mustFit(t, x.name+" at "+p.name, w, head, i, p.with(x.t), api.ErrForm)
					}
				}
			}
		}
	}
}

// flawed is one of what an argument may be, and the error that it causes.
type flawed struct {
	named
	err error
}

// otherWidth is another one than w.
func otherWidth(w int) int { return 33 - w }

// flawedHeads are heads with two cuts, for which good is the first part.
func flawedHeads(w int, good api.Tree) []flawed {
	fine := func(x api.Tree) api.Tree { return node(cutTo(w, good), "k", "", node(cut(filled(w, 50)), "l", "", x)) }
	return []flawed{
		{named{"a fine head", fine(none)}, nil},
		{named{"a head with a dark node", fine(dark(none, "d", filled(w, 1), none))}, nil},
		{named{"a head of another width", node(cutTo(otherWidth(w), good), "k", "", cutTo(otherWidth(w), good))}, nil},
		{named{"a malformed head", fine(api.Tree{Kind: 4})}, api.ErrForm},
		{named{"a head with a malformed cut", fine(api.Tree{Kind: 3, Key: []byte("k")})}, api.ErrForm},
		{named{"a deep head", fine(stacked(63, none, right))}, api.ErrDepth},
		{named{"a deep and malformed head", fine(stacked(63, api.Tree{Kind: 4}, right))}, api.ErrDepth},
	}
}

// flawedParts are parts with the errors of tree.Digest, or that they are none.
func flawedParts(w int, good api.Tree) []flawed {
	return []flawed{
		{named{"a deep part", stacked(65, none, left)}, api.ErrDepth},
		{named{"a deep part that is not full", stacked(65, cut(filled(w, 1)), left)}, api.ErrDepth},
		{named{"a malformed part", node(good, "k", "", api.Tree{Kind: 5})}, api.ErrForm},
		{named{"a part with a digest of another width", node(good, "k", "", cut(filled(w+1, 1)))}, api.ErrForm},
		{named{"a part with a cut", node(good, "k", "", cut(filled(w, 1)))}, api.ErrForm},
		{named{"a part that is a cut to the good one", cutTo(w, good)}, api.ErrForm},
		{named{"a part with a dark node", dark(good, "k", filled(w, 2), none)}, api.ErrForm},
		{named{"an empty part", none}, api.ErrForm},
	}
}

// TestFirstErrorsOfFits puts everything together that may be amiss.
func TestFirstErrorsOfFits(t *testing.T) {
	good := node(leaf("a"), "b", "1", leaf("c"))
	other := node(leaf("a"), "b", "2", leaf("c"))
	met := map[error]int{}
	for _, w := range []int{32, 4, 0, 33, -1} {
		width := w
		if w < 1 || w > 32 {
			width = 32
		}
		parts := append(flawedParts(width, good), flawed{named{"the part", good}, nil}, flawed{named{"another part", other}, nil})
		for _, head := range flawedHeads(width, good) {
			for _, part := range parts {
				for i, none := range map[int]bool{0: false, 1: false, 2: true, 3: true, -1: true, math.MinInt: true, math.MaxInt: true} {
					var want error
					switch {
					case w != width:
						want = api.ErrArg
					case head.err != nil:
						want = head.err
					case part.err != nil:
						want = part.err
					case none:
						want = api.ErrNone
					case i != 0 || part.name != "the part" || head.name == "a head of another width":
						want = api.ErrRoot
					}
					mustFit(t, head.name+" and "+part.name, w, head.t, i, part.t, want)
					mustAgreeOnFits(t, head.name+" and "+part.name, w, head.t, i, part.t)
					met[want]++
				}
			}
		}
	}
	if len(met) != 6 {
		t.Errorf("met only %v", met)
	}
}
