package chunk_test

import (
	"fmt"
	"slices"
	"testing"

	"heartwood/api"
)

// P11.3: Join.

// TestDrawnJoins holds Join against trees that are written by hand.
func TestDrawnJoins(t *testing.T) {
	a, c, e := leaf("a"), node(leaf("c"), "d", "", none), complete(3)
	for _, w := range fewWidths {
		to := func(x api.Tree) api.Tree { return cutTo(w, x) }
		for _, x := range []struct {
			head  api.Tree
			parts []api.Tree
			want  api.Tree
		}{
			{none, nil, none},
			{a, nil, a},
			{e, []api.Tree{}, e},
			{to(a), []api.Tree{a}, a},
			{to(e), []api.Tree{e}, e},
			{node(to(a), "b", "1", none), []api.Tree{a}, node(a, "b", "1", none)},
			{node(none, "b", "1", to(a)), []api.Tree{a}, node(none, "b", "1", a)},
			{node(to(a), "b", "1", to(c)), []api.Tree{a, c}, node(a, "b", "1", c)},
			{node(to(a), "b", "1", to(a)), []api.Tree{a, a}, node(a, "b", "1", a)},
			{node(a, "b", "1", to(c)), []api.Tree{c}, node(a, "b", "1", c)},
			{node(node(to(a), "b", "1", none), "c", "", to(c)), []api.Tree{a, c}, node(node(a, "b", "1", none), "c", "", c)},
			{node(to(c), "x", "", node(to(e), "y", "", to(a))), []api.Tree{c, e, a}, node(c, "x", "", node(e, "y", "", a))},
			{node(node(to(e), "x", "", to(c)), "y", "", node(none, "z", "", to(a))), []api.Tree{e, c, a},
				node(node(e, "x", "", c), "y", "", node(none, "z", "", a))},
			{node(node(leaf("k"), "l", "", node(to(a), "m", "", none)), "n", "", leaf("o")), []api.Tree{a},
				node(node(leaf("k"), "l", "", node(a, "m", "", none)), "n", "", leaf("o"))},
		} {
			mustJoin(t, "a head by hand", w, x.head, x.parts, x.want)
			mustHaveTheDigest(t, "a head by hand", w, x.head, x.parts)
		}
	}
}

// TestNumbersOfParts: too few and too many, whatever they are.
func TestNumbersOfParts(t *testing.T) {
	bad := append(flawedParts(32, leaf("a")), flawed{named{"a part", leaf("a")}, nil})
	for _, h := range heads() {
		if len(waysTo(h.t, api.TreeDark)) > 0 {
			continue
		}
		for n := range h.count + 4 {
			if n == h.count {
				continue
			}
			for _, part := range bad {
				parts := slices.Repeat([]api.Tree{part.t}, n)
				mustNotJoin(t, fmt.Sprintf("%s with %d of %s", h.name, n, part.name), 32, h.t, parts, api.ErrForm)
			}
		}
	}
	for _, x := range append(uneven(), named{"a complete tree", complete(5)}) {
		for n := range 6 {
			head, parts := cutUp(32, x.t, n)
			for less := range parts {
				mustNotJoin(t, x.name+" and too few", 32, head, parts[:less], api.ErrForm)
				mustNotJoin(t, x.name+" and too few", 32, head, parts[less+1:], api.ErrForm)
				mustNotJoin(t, x.name+" and one left out", 32, head, slices.Delete(slices.Clone(parts), less, less+1), api.ErrForm)
				mustNotJoin(t, x.name+" and one twice", 32, head, slices.Insert(slices.Clone(parts), less, parts[less]), api.ErrForm)
			}
			mustNotJoin(t, x.name+" and too many", 32, head, append(slices.Clone(parts), leaf("z")), api.ErrForm)
			mustNotJoin(t, x.name+" and an empty one", 32, head, append(slices.Clone(parts), none), api.ErrForm)
			mustNotJoin(t, x.name+" and one before", 32, head, slices.Insert(slices.Clone(parts), 0, none), api.ErrForm)
		}
	}
	mustNotJoin(t, "the empty tree and the empty tree", 32, none, []api.Tree{none}, api.ErrForm)
	mustNotJoin(t, "one node and itself", 32, leaf("a"), []api.Tree{leaf("a")}, api.ErrForm)
}

// TestDarkHeads: a head with a TreeDark is none, at whatever place it has it,
// and whatever the parts are.
func TestDarkHeads(t *testing.T) {
	part, other := leaf("p"), leaf("q")
	for _, p := range places() {
		for _, d := range []struct {
			name string
			with func(x api.Tree) api.Tree
		}{
			{"dark above", func(x api.Tree) api.Tree { return dark(x, "d", filled(32, 1), none) }},
			{"dark above, without a digest", func(x api.Tree) api.Tree { return dark(none, "d", nil, x) }},
			{"dark to the left", func(x api.Tree) api.Tree { return node(dark(none, "d", filled(32, 1), none), "e", "", x) }},
			{"dark to the right", func(x api.Tree) api.Tree { return node(x, "c", "", dark(none, "d", filled(32, 1), none)) }},
		} {
			what := d.name + " at " + p.name
			for _, head := range []api.Tree{p.with(d.with(cutTo(32, part))), d.with(p.with(cutTo(32, part)))} {
				for _, parts := range [][]api.Tree{nil, {part}, {other}, {none}, {cutTo(32, part)}, {stacked(65, none, left)}, {part, part}} {
					mustNotJoin(t, what, 32, head, parts, api.ErrForm)
				}
			}
			mustNotJoin(t, what+", no cut", 32, p.with(d.with(none)), nil, api.ErrForm)
			mustNotJoin(t, what+", no cut", 32, d.with(p.with(leaf("a"))), nil, api.ErrForm)
		}
	}
}

// permutations are all orders of the numbers below n.
func permutations(n int) [][]int {
	if n == 0 {
		return [][]int{nil}
	}
	var out [][]int
	for _, p := range permutations(n - 1) {
		for at := range n {
			out = append(out, slices.Insert(slices.Clone(p), at, n-1))
		}
	}
	return out
}

// TestOtherOrders: parts in another order do not fit, from the first one on that
// is not at its place.
func TestOtherOrders(t *testing.T) {
	p := []api.Tree{leaf("a"), complete(2), leaf("c"), stacked(5, none, zigzag), leaf("e")}
	for _, w := range []int{4, 32} {
		to := func(i int) api.Tree { return cutTo(w, p[i]) }
		for _, head := range []api.Tree{
			node(node(to(0), "1", "", node(to(1), "2", "", none)), "3", "", node(node(to(2), "4", "", to(3)), "5", "", to(4))),
			node(to(0), "1", "", node(to(1), "2", "", node(to(2), "3", "", node(to(3), "4", "", to(4))))),
			node(node(node(node(to(0), "1", "", to(1)), "2", "", to(2)), "3", "", to(3)), "4", "", to(4)),
		} {
			for _, order := range permutations(5) {
				parts, first := make([]api.Tree, 5), -1
				for i, from := range order {
					parts[i] = p[from]
					if first < 0 && from != i {
						first = i
					}
				}
				if first < 0 {
					want, _, _ := spelledJoin(w, head, p)
					mustJoin(t, "parts in order", w, head, parts, want)
				} else {
					mustMiss(t, fmt.Sprintf("the order %v", order), w, head, parts, first)
				}
			}
		}
	}
}

// TestManyPartsOfWhichOneIsAnother: its index is told, however large it is.
func TestManyPartsOfWhichOneIsAnother(t *testing.T) {
	x := complete(9)
	head, parts := cutUp(32, x, 8)
	if len(parts) != 256 {
		t.Fatal(len(parts))
	}
	for i := range parts {
		others := slices.Clone(parts)
		others[i] = leaf("other")
		mustMiss(t, "256 parts", 32, head, others, i)
		others[i] = none
		mustNotJoin(t, "256 parts", 32, head, others, api.ErrForm)
		others[i] = stacked(65, none, left)
		mustNotJoin(t, "256 parts", 32, head, others, api.ErrDepth)
	}
}

// TestFirstErrorsOfParts puts into each of three places each of what a part may
// be.
func TestFirstErrorsOfParts(t *testing.T) {
	p := []api.Tree{leaf("a"), node(leaf("c"), "d", "", none), complete(2)}
	for _, w := range []int{4, 32} {
		head := node(node(cutTo(w, p[0]), "1", "", node(none, "2", "", cutTo(w, p[1]))), "3", "", cutTo(w, p[2]))
		whole, _, _ := spelledJoin(w, head, p)
		choices := [3][]flawed{}
		for i, good := range p {
			choices[i] = append(flawedParts(w, good), flawed{named{"the part", good}, nil}, flawed{named{"another part", leaf("other")}, api.ErrRoot},
				flawed{named{"the part of another place", p[(i+1)%3]}, api.ErrRoot})
		}
		for _, one := range choices[0] {
			for _, two := range choices[1] {
				for _, three := range choices[2] {
					all := []flawed{one, two, three}
					parts := []api.Tree{one.t, two.t, three.t}
					what := fmt.Sprintf("%s, %s, %s", one.name, two.name, three.name)
					first := slices.IndexFunc(all, func(f flawed) bool { return f.err != nil })
					switch {
					case first < 0:
						mustJoin(t, what, w, head, parts, whole)
					case all[first].err == api.ErrRoot:
						mustMiss(t, what, w, head, parts, first)
					default:
						mustNotJoin(t, what, w, head, parts, all[first].err)
					}
				}
			}
		}
	}
}

// TestFirstErrorsOfJoin puts everything together that may be amiss.
func TestFirstErrorsOfJoin(t *testing.T) {
	p := []api.Tree{leaf("a"), node(leaf("c"), "d", "", none), stacked(63, none, zigzag)}
	bad := func(flaws, bit int) bool { return flaws>>bit&1 == 1 }
	for flaws := range 1 << 10 {
		for _, more := range []bool{false, true} {
			w := 32
			head := node(node(cutTo(32, p[0]), "1", "", none), "2", "", node(cutTo(32, p[1]), "3", "", none))
			parts := slices.Clone(p[:2])
			where, want := -1, error(nil)
			tell := func(err error, index int) { where, want = index, err }
			if bad(flaws, 9) { // a result of 65 levels
				head, parts = node(head, "4", "", node(none, "5", "", cutTo(32, p[2]))), slices.Clone(p)
				tell(api.ErrDepth, -1)
			}
			if bad(flaws, 8) { // a part that does not fit, behind another flaw
				parts[1] = leaf("other")
				tell(api.ErrRoot, 1)
			}
			if bad(flaws, 7) { // a part with an error of its own, before it
				parts[0] = api.Tree{Kind: 9}
				tell(api.ErrForm, -1)
			}
			if bad(flaws, 6) { // one that is too deep there
				parts[0] = stacked(65, none, right)
				tell(api.ErrDepth, -1)
			}
			if bad(flaws, 5) { // one that does not fit there
				parts[0] = leaf("other")
				tell(api.ErrRoot, 0)
			}
			if bad(flaws, 4) {
				head = node(head, "6", "", dark(none, "7", filled(32, 1), none))
				tell(api.ErrForm, -1)
			}
			if bad(flaws, 3) {
				if more {
					parts = append(parts, none)
				} else {
					parts = parts[:len(parts)-1]
				}
				tell(api.ErrForm, -1)
			}
			if bad(flaws, 2) {
				head = node(head, "8", "", api.Tree{Kind: -1})
				tell(api.ErrForm, -1)
			}
			if bad(flaws, 1) {
				head = node(head, "9", "", stacked(64, none, left))
				tell(api.ErrDepth, -1)
			}
			if bad(flaws, 0) {
				w = 33
				tell(api.ErrArg, -1)
			}
			what := fmt.Sprintf("the flaws %010b", flaws)
			switch {
			case where >= 0:
				mustMiss(t, what, w, head, parts, where)
			case want != nil:
				mustNotJoin(t, what, w, head, parts, want)
			}
			if got := mustAgreeOnJoin(t, what, w, head, parts); got != want {
				t.Errorf("%s: %v by the document's words, want %v", what, got, want)
			}
		}
	}
}

func TestWidthsOfJoinAndFits(t *testing.T) {
	part := complete(3)
	for _, w := range badWidths {
		for _, width := range []int{1, 32, 33} {
			head := node(cut(filled(width, 1)), "k", "", none)
			mustNotJoin(t, "a bad width", w, head, []api.Tree{part}, api.ErrArg)
			mustNotJoin(t, "a bad width", w, head, nil, api.ErrArg)
			mustFit(t, "a bad width", w, head, 0, part, api.ErrArg)
			mustFit(t, "a bad width", w, head, 5, part, api.ErrArg)
		}
		mustNotJoin(t, "a bad width without a cut", w, leaf("a"), nil, api.ErrArg)
		mustNotJoin(t, "a bad width and nothing", w, none, nil, api.ErrArg)
		for _, x := range append(malformed(), tooDeep()...) {
			mustNotJoin(t, "a bad width and "+x.name, w, x.t, nil, api.ErrArg)
			mustFit(t, "a bad width and "+x.name, w, x.t, 0, x.t, api.ErrArg)
		}
	}
	for w := 1; w <= api.MaxWidth; w++ {
		head := node(none, "k", "", cutTo(w, part))
		mustFit(t, "every width", w, head, 0, part, nil)
		mustJoin(t, "every width", w, head, []api.Tree{part}, node(none, "k", "", part))
		mustMiss(t, "every width", w, node(none, "k", "", cut(make([]byte, w+1))), []api.Tree{part}, 0)
	}
}

func TestHeadsOfJoinThatAreNoTree(t *testing.T) {
	part := leaf("p")
	for _, p := range places() {
		for _, parts := range [][]api.Tree{nil, {part}, {none}, {part, part}, {stacked(65, none, left)}} {
			for _, x := range malformed() {
				mustNotJoin(t, x.name+" at "+p.name, 32, p.with(x.t), parts, api.ErrForm)
				mustNotJoin(t, x.name+" beside a cut", 32, node(cutTo(32, part), "k", "", p.with(x.t)), parts, api.ErrForm)
			}
			for _, x := range tooDeep() {
				mustNotJoin(t, x.name+" at "+p.name, 32, p.with(x.t), parts, api.ErrDepth)
				mustNotJoin(t, x.name+" beside a cut", 32, node(cutTo(32, part), "k", "", p.with(x.t)), parts, api.ErrDepth)
			}
		}
	}
}

// TestDepthsOfJoins: a result may have 64 levels, and not 65, however they are
// shared out between the head and the part.
func TestDepthsOfJoins(t *testing.T) {
	turns := []func(int) bool{left, right, zigzag}
	for above := 0; above <= 64; above++ {
		for i, turn := range turns {
			for below := max(1, 62-above); below <= min(64, 67-above); below++ {
				part := stacked(below, none, turns[(i+1)%3])
				head := stacked(above, cutTo(32, part), turn)
				what := fmt.Sprintf("%d levels below %d", below, above)
				if above+below > 64 {
					mustNotJoin(t, what, 32, head, []api.Tree{part}, api.ErrDepth)
					mustMiss(t, what, 32, head, []api.Tree{leaf("other")}, 0)
				} else {
					mustJoin(t, what, 32, head, []api.Tree{part}, stacked(above, part, turn))
				}
				mustFit(t, what, 32, head, 0, part, nil)
			}
			deepest := stacked(64, none, turn)
			head := stacked(above, cutTo(32, deepest), turn)
			if above == 0 {
				mustJoin(t, "a part of 64 levels alone", 32, head, []api.Tree{deepest}, deepest)
			} else {
				mustNotJoin(t, "a part of 64 levels", 32, head, []api.Tree{deepest}, api.ErrDepth)
			}
		}
	}
}

// TestOneOfManyPartsIsTooDeep: each part has a depth of its own left.
func TestOneOfManyPartsIsTooDeep(t *testing.T) {
	for deep := range 5 {
		for more := range 2 {
			var parts []api.Tree
			for i, above := range []int{2, 3, 3, 2, 2} {
				levels := 1 + i
				if i == deep {
					levels = 64 - above + more
				}
				parts = append(parts, stacked(levels, none, zigzag))
			}
			to := func(i int) api.Tree { return cutTo(32, parts[i]) }
			head := node(node(to(0), "1", "", node(to(1), "2", "", to(2))), "3", "", node(to(3), "4", "", to(4)))
			if more == 1 {
				mustNotJoin(t, fmt.Sprintf("the part %d a level too deep", deep), 32, head, parts, api.ErrDepth)
			} else {
				mustAgreeOnJoin(t, fmt.Sprintf("the part %d as deep as it may be", deep), 32, head, parts)
			}
			// One that does not fit is told before.
			if other := (deep + 2) % 5; more == 1 {
				parts[other] = leaf("other")
				mustMiss(t, "a part too deep and another one", 32, head, parts, other)
			}
		}
	}
	// The deepest way may lead beside the cut.
	head := node(stacked(63, none, left), "t", "", cutTo(32, leaf("u")))
	mustAgreeOnJoin(t, "a deep head", 32, head, []api.Tree{leaf("u")})
	mustNotJoin(t, "a cut on the deepest way", 32, stacked(64, cutTo(32, leaf("a")), right), []api.Tree{leaf("a")}, api.ErrDepth)
	mustJoin(t, "a cut above the last level", 32, stacked(63, cutTo(32, leaf("a")), right), []api.Tree{leaf("a")}, stacked(63, leaf("a"), right))
}

// TestHeadsWithoutCuts: there is nothing to replace.
func TestHeadsWithoutCuts(t *testing.T) {
	for _, x := range fullTrees(t) {
		for _, w := range fewWidths {
			mustJoin(t, x.name, w, x.t, nil, x.t)
			mustJoin(t, x.name, w, x.t, []api.Tree{}, x.t)
		}
		mustNotJoin(t, x.name, 32, x.t, []api.Tree{x.t}, api.ErrForm)
		mustNotJoin(t, x.name, 32, x.t, []api.Tree{none}, api.ErrForm)
	}
}

func TestHeadsOfOneCut(t *testing.T) {
	for _, x := range fullTrees(t) {
		if x.t.Kind == api.TreeNone {
			continue
		}
		for _, w := range fewWidths {
			mustJoin(t, x.name, w, cutTo(w, x.t), []api.Tree{x.t}, x.t)
			mustFit(t, x.name, w, cutTo(w, x.t), 0, x.t, nil)
		}
		mustMiss(t, x.name, 32, cutTo(31, x.t), []api.Tree{x.t}, 0)
		mustMiss(t, x.name, 31, cutTo(32, x.t), []api.Tree{x.t}, 0)
		mustMiss(t, x.name, 32, cut(nil), []api.Tree{x.t}, 0)
		mustNotJoin(t, x.name, 32, cutTo(32, x.t), []api.Tree{x.t, x.t}, api.ErrForm)
		mustNotJoin(t, x.name, 32, cutTo(32, x.t), nil, api.ErrForm)
		mustNotJoin(t, x.name, 32, cutTo(32, x.t), []api.Tree{cutTo(32, x.t)}, api.ErrForm)
	}
}
