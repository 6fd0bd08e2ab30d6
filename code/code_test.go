package code_test

import (
	"bytes"
	"encoding/hex"
	"fmt"
	"math"
	"math/rand"
	"slices"
	"strings"
	"testing"

	"heartwood/api"
	"heartwood/avl"
	"heartwood/check"
	"heartwood/code"
	"heartwood/proof"
	"heartwood/tree"
)

var none = api.Tree{}

func node(l api.Tree, key, value string, r api.Tree) api.Tree {
	return api.Tree{Kind: api.TreeNode, Key: []byte(key), Value: []byte(value), Kids: []api.Tree{l, r}}
}

func dark(l api.Tree, key, digest string, r api.Tree) api.Tree {
	return api.Tree{Kind: api.TreeDark, Key: []byte(key), Digest: []byte(digest), Kids: []api.Tree{l, r}}
}

func cut(digest string) api.Tree { return api.Tree{Kind: api.TreeCut, Digest: []byte(digest)} }

func leaf(key, value string) api.Tree { return node(none, key, value, none) }

// filled returns n bytes without a short period, so that a mixed-up order shows.
func filled(n int, seed uint32) string {
	out := make([]byte, n)
	x := seed*2654435761 + 1
	for i := range out {
		x = x*1664525 + 1013904223
		out[i] = byte(x >> 24)
	}
	return string(out)
}

func unhex(t testing.TB, s string) []byte {
	t.Helper()
	b, err := hex.DecodeString(strings.ReplaceAll(s, " ", ""))
	if err != nil {
		t.Fatal(err)
	}
	return b
}

// The encodings by the document's words.

// number is the encoding of a length that takes two bytes at most.
func number(n int) string {
	switch {
	case n <= 247:
		return string([]byte{byte(n)})
	case n <= 255:
		return string([]byte{248, byte(n)})
	}
	return string([]byte{249, byte(n >> 8), byte(n)})
}

func field(b []byte) string { return number(len(b)) + string(b) }

// spelled is what the definition makes of a tree, however deep it is and
// however long its fields are.
func spelled(x api.Tree) string {
	out := string([]byte{byte(x.Kind)})
	switch x.Kind {
	case 1:
		out += field(x.Key) + field(x.Value)
	case 2:
		out += field(x.Key) + field(x.Digest)
	case 3:
		return out + field(x.Digest)
	}
	for _, kid := range x.Kids {
		out += spelled(kid)
	}
	return out
}

// parts are all parts of a tree, itself first.
func parts(x api.Tree) []api.Tree {
	out := []api.Tree{x}
	for _, kid := range x.Kids {
		out = append(out, parts(kid)...)
	}
	return out
}

// spelledWrite is what Write has to answer.
func spelledWrite(x api.Tree) (string, error) {
	if err := tree.Check(x); err != nil {
		return "", err
	}
	for _, part := range parts(x) {
		if len(part.Digest) > 32 {
			return "", api.ErrLong
		}
	}
	return spelled(x), nil
}

// taken is the byte string of at most most bytes with whose encoding b begins,
// and what follows it. It tries all lengths, so that it knows nothing of how a
// length is read.
func taken(b string, most int) (value []byte, rest string, ok bool) {
	for n := range most + 1 {
		head := number(n)
		if strings.HasPrefix(b, head) && len(b) >= len(head)+n {
			b = b[len(head):]
			return []byte(b[:n]), b[n:], true
		}
	}
	return nil, "", false
}

// parsed is the tree of at most most levels with whose encoding b begins, and
// what follows it.
func parsed(b string, most int) (x api.Tree, rest string, ok bool) {
	if b == "" || b[0] > 3 {
		return x, "", false
	}
	x.Kind, rest = int(b[0]), b[1:]
	isNode := x.Kind == 1 || x.Kind == 2
	if isNode {
		if x.Key, rest, ok = taken(rest, 80); !ok || most == 0 {
			return x, "", false
		}
	}
	if x.Kind == 1 {
		if x.Value, rest, ok = taken(rest, 1024); !ok {
			return x, "", false
		}
	}
	if x.Kind > 1 {
		if x.Digest, rest, ok = taken(rest, 32); !ok {
			return x, "", false
		}
	}
	if isNode {
		x.Kids = make([]api.Tree, 2)
		for i := range x.Kids {
			if x.Kids[i], rest, ok = parsed(rest, most-1); !ok {
				return x, "", false
			}
		}
	}
	return x, rest, true
}

// spelledRead is what Read has to answer.
func spelledRead(b []byte) (api.Tree, error) {
	x, rest, ok := parsed(string(b), 64)
	switch {
	case !ok:
		return none, api.ErrForm
	case rest != "":
		return none, api.ErrMore
	}
	return x, nil
}

// same compares trees by what they say: nil and empty are one.
func same(a, b api.Tree) bool {
	return a.Kind == b.Kind && bytes.Equal(a.Key, b.Key) && bytes.Equal(a.Value, b.Value) &&
		bytes.Equal(a.Digest, b.Digest) && slices.EqualFunc(a.Kids, b.Kids, same)
}

// told tells a tree by what the definition makes of it.
func told(x api.Tree) string { return short(spelled(x)) }

// short tells bytes, but not all of many.
func short(b string) string {
	if len(b) > 40 {
		return fmt.Sprintf("%x.. (%d bytes)", b[:40], len(b))
	}
	return fmt.Sprintf("%x", b)
}

func mustWrite(t testing.TB, what string, x api.Tree, want string) {
	t.Helper()
	if got, err := code.Write(x); err != nil || string(got) != want {
		t.Errorf("Write of %s (%s) = %s, %v, want %s", what, told(x), short(string(got)), err, short(want))
	}
}

// mustNotWrite wants the error itself, a plain Code, and no bytes beside it.
func mustNotWrite(t testing.TB, what string, x api.Tree, want api.Code) {
	t.Helper()
	if got, err := code.Write(x); err != want || len(got) != 0 {
		t.Errorf("Write of %s = %s, %v, want %v alone", what, short(string(got)), err, want)
	}
}

func mustRead(t testing.TB, what string, b string, want api.Tree) {
	t.Helper()
	if got, err := code.Read([]byte(b)); err != nil || !same(got, want) {
		t.Errorf("Read of %s = %s, %v, want %s", what, told(got), err, told(want))
	}
}

// mustNotRead wants the error itself, a plain Code, and no tree beside it.
func mustNotRead(t testing.TB, what string, b string, want api.Code) {
	t.Helper()
	if got, err := code.Read([]byte(b)); err != want || !same(got, none) {
		t.Errorf("Read of %s (%s) = %s, %v, want %v alone", what, short(b), told(got), err, want)
	}
}

// mustMatch wants a tree to be written as those bytes, and these to be read as
// that tree.
func mustMatch(t testing.TB, what string, x api.Tree, b string) {
	t.Helper()
	mustWrite(t, what, x, b)
	mustRead(t, what, b, x)
}

// mustAgree holds Write of any tree against the document's words, and Read of
// what it wrote.
func mustAgree(t testing.TB, what string, x api.Tree) {
	t.Helper()
	want, wantErr := spelledWrite(x)
	got, err := code.Write(x)
	if err != wantErr || string(got) != want {
		t.Errorf("Write of %s (%s) = %s, %v, want %s, %v", what, told(x), short(string(got)), err, short(want), wantErr)
	}
	if err == nil {
		mustRead(t, what, want, x)
	}
}

// mustAgreeOn holds Read of any bytes against the document's words, and Write
// of what was read.
func mustAgreeOn(t testing.TB, what string, b []byte) error {
	t.Helper()
	want, wantErr := spelledRead(b)
	got, err := code.Read(b)
	if err != wantErr || !same(got, want) {
		t.Errorf("Read of %s (%s) = %s, %v, want %s, %v", what, short(string(b)), told(got), err, told(want), wantErr)
	}
	if err == nil {
		mustWrite(t, what, got, string(b))
	}
	return err
}

// place puts a part somewhere within a tree.
type place struct {
	name string
	with func(api.Tree) api.Tree
}

// places are the root, both sides of each kind of node, and two further down.
func places() []place {
	sum := filled(32, 90)
	return []place{
		{"the root", func(x api.Tree) api.Tree { return x }},
		{"the left of a node", func(x api.Tree) api.Tree { return node(x, "k", "v", none) }},
		{"the right of a node", func(x api.Tree) api.Tree { return node(cut(sum), "k", "", x) }},
		{"the left of a dark node", func(x api.Tree) api.Tree { return dark(x, "", sum, leaf("l", "w")) }},
		{"the right of a dark node", func(x api.Tree) api.Tree { return dark(none, "k", "", x) }},
		{"the middle of a tree", func(x api.Tree) api.Tree {
			return node(dark(none, "a", sum, x), "b", "1", node(leaf("c", "2"), "d", "3", cut("s")))
		}},
		{"the end of a long way", func(x api.Tree) api.Tree {
			return stacked(60, x, steps()[4].with)
		}},
	}
}

// stacked puts a tree under n nodes.
func stacked(n int, x api.Tree, step func(api.Tree) api.Tree) api.Tree {
	for range n {
		x = step(x)
	}
	return x
}

// steps are the ways to put one more node above a tree.
func steps() []place {
	turns := 0
	return []place{
		{"nodes to the left", func(x api.Tree) api.Tree { return node(x, "", "", none) }},
		{"nodes to the right", func(x api.Tree) api.Tree { return node(cut("a"), "c", "d", x) }},
		{"dark nodes to the left", func(x api.Tree) api.Tree { return dark(x, "c", "d", cut("e")) }},
		{"dark nodes to the right", func(x api.Tree) api.Tree { return dark(none, "", "", x) }},
		{"both to both sides", func(x api.Tree) api.Tree {
			turns++
			switch turns % 4 {
			case 0:
				return node(x, "a", "1", none)
			case 1:
				return dark(cut("b"), "b", "2", x)
			case 2:
				return node(none, "", "", x)
			}
			return dark(x, "d", "", cut(filled(32, 91)))
		}},
	}
}

type named struct {
	name string
	t    api.Tree
}

// goodTrees are trees of every kind, with fields of every length at an edge.
func goodTrees() []named {
	out := []named{
		{"the empty tree", none},
		{"the empty tree with empty fields", api.Tree{Key: []byte{}, Value: []byte{}, Digest: []byte{}, Kids: []api.Tree{}}},
		{"a node without key and value", leaf("", "")},
		{"a node with an empty Digest", api.Tree{Kind: 1, Key: []byte("a"), Digest: []byte{}, Kids: []api.Tree{none, none}}},
		{"a dark node with an empty Value", api.Tree{Kind: 2, Value: []byte{}, Digest: []byte{1}, Kids: []api.Tree{none, none}}},
		{"a cut with empty fields", api.Tree{Kind: 3, Key: []byte{}, Value: []byte{}, Digest: []byte{1}, Kids: []api.Tree{}}},
		{"keys that do not rise", node(leaf("c", "1"), "b", "2", leaf("b", "3"))},
		{"digests of several widths", dark(cut("ab"), "k", "abc", dark(cut(""), "l", "a", cut(filled(32, 1))))},
		{"a tree that is not balanced", node(none, "a", "1", node(none, "b", "2", leaf("c", "3")))},
		{"fields that look like encodings", node(cut("\x03\x01a"), "\x00\x00", "\x01\x01a\x01b\x00\x00", dark(none, "\x01", "\x03", none))},
		{"all of the greatest", node(dark(cut(filled(32, 2)), filled(80, 3), filled(32, 4), none), filled(80, 5), filled(1024, 6), cut(filled(32, 7)))},
	}
	for _, n := range []int{0, 1, 2, 31, 32} {
		out = append(out, named{fmt.Sprintf("a cut of %d bytes", n), cut(filled(n, 8))},
			named{fmt.Sprintf("a dark node of %d bytes", n), dark(none, "k", filled(n, 9), cut("d"))})
	}
	for _, n := range []int{0, 1, 2, 31, 32, 33, 79, 80} {
		out = append(out, named{fmt.Sprintf("a node of a key of %d bytes", n), node(none, filled(n, 10), "v", cut("d"))},
			named{fmt.Sprintf("a dark node of a key of %d bytes", n), dark(none, filled(n, 11), "d", leaf("l", ""))})
	}
	for _, n := range []int{0, 1, 2, 80, 81, 127, 128, 129, 246, 247, 248, 249, 255, 256, 257, 511, 512, 1023, 1024} {
		out = append(out, named{fmt.Sprintf("a node of a value of %d bytes", n), node(cut("d"), "k", filled(n, 12), none)})
	}
	return out
}

// P10.1 and P10.2: what is an encoding.

func TestExamples(t *testing.T) {
	mustWrite(t, "the empty tree", none, "\x00")
	mustWrite(t, "the node a with the value b", leaf("a", "b"), "\x01\x01\x61\x01\x62\x00\x00")
	mustNotRead(t, "no bytes", "", api.ErrForm)
	mustNotRead(t, "00 00", "\x00\x00", api.ErrMore)
	mustNotRead(t, "04", "\x04", api.ErrForm)
	if _, err := code.Read(nil); err != api.ErrForm {
		t.Errorf("Read of nil: %v", err)
	}
}

// TestDrawnEncodings holds both functions against encodings written by hand.
func TestDrawnEncodings(t *testing.T) {
	for _, x := range []struct {
		t    api.Tree
		want string
	}{
		{none, "00"},
		{cut(""), "03 00"},
		{cut("\x00"), "03 01 00"},
		{cut("\x07\x08"), "03 02 0708"},
		{leaf("", ""), "01 00 00 00 00"},
		{leaf("k", ""), "01 01 6b 00 00 00"},
		{leaf("", "v"), "01 00 01 76 00 00"},
		{leaf("kl", "vwx"), "01 02 6b6c 03 767778 00 00"},
		{dark(none, "", "", none), "02 00 00 00 00"},
		{dark(none, "k", "", none), "02 01 6b 00 00 00"},
		{dark(none, "", "\x09", none), "02 00 01 09 00 00"},
		{dark(none, "kl", "\x01\x02\x03", none), "02 02 6b6c 03 010203 00 00"},
		{node(cut("\x07"), "k", "v", none), "01 01 6b 01 76 03 01 07 00"},
		{node(none, "k", "v", cut("\x07")), "01 01 6b 01 76 00 03 01 07"},
		{dark(cut("\x07"), "k", "\x05", cut("\x08")), "02 01 6b 01 05 03 01 07 03 01 08"},
		{node(leaf("a", "1"), "b", "2", leaf("c", "3")), "01 01 62 01 32 01 01 61 01 31 00 00 01 01 63 01 33 00 00"},
		{node(dark(none, "a", "\x04", none), "b", "2", none), "01 01 62 01 32 02 01 61 01 04 00 00 00"},
		{dark(none, "b", "\x04", leaf("c", "3")), "02 01 62 01 04 00 01 01 63 01 33 00 00"},
		{dark(dark(cut("\x01"), "a", "", none), "b", "\x04", none), "02 01 62 01 04 02 01 61 00 03 01 01 00 00"},
		{node(none, "a", "1", node(none, "b", "2", leaf("c", "3"))), "01 01 61 01 31 00 01 01 62 01 32 00 01 01 63 01 33 00 00"},
	} {
		mustMatch(t, x.want, x.t, string(unhex(t, x.want)))
	}
}

// TestLengthsOfFields writes the lengths by hand, where the bytes of the length
// itself grow among them.
func TestLengthsOfFields(t *testing.T) {
	keys := map[int]string{0: "00", 1: "01", 2: "02", 32: "20", 33: "21", 79: "4f", 80: "50"}
	digests := map[int]string{0: "00", 1: "01", 2: "02", 20: "14", 31: "1f", 32: "20"}
	values := map[int]string{
		0: "00", 1: "01", 2: "02", 80: "50", 81: "51", 126: "7e", 127: "7f", 128: "80", 129: "81", 246: "f6", 247: "f7",
		248: "f8f8", 249: "f8f9", 255: "f8ff", 256: "f90100", 257: "f90101", 512: "f90200", 1023: "f903ff", 1024: "f90400",
	}
	for n, head := range keys {
		key, b := filled(n, 1), string(unhex(t, head))
		mustMatch(t, fmt.Sprintf("a key of %d", n), leaf(key, "v"), "\x01"+b+key+"\x01v\x00\x00")
		mustMatch(t, fmt.Sprintf("a dark node's key of %d", n), dark(none, key, "d", none), "\x02"+b+key+"\x01d\x00\x00")
	}
	for n, head := range values {
		value, b := filled(n, 2), string(unhex(t, head))
		mustMatch(t, fmt.Sprintf("a value of %d", n), leaf("k", value), "\x01\x01k"+b+value+"\x00\x00")
	}
	for n, head := range digests {
		digest, b := filled(n, 3), string(unhex(t, head))
		mustMatch(t, fmt.Sprintf("a dark digest of %d", n), dark(none, "k", digest, none), "\x02\x01k"+b+digest+"\x00\x00")
		mustMatch(t, fmt.Sprintf("a cut of %d", n), cut(digest), "\x03"+b+digest)
		below := node(cut(digest), "k", "v", dark(none, "l", digest, none))
		mustMatch(t, fmt.Sprintf("digests of %d below", n), below, "\x01\x01k\x01v\x03"+b+digest+"\x02\x01l"+b+digest+"\x00\x00")
	}
}

func TestGoodTreesAtEveryPlace(t *testing.T) {
	for _, p := range places() {
		for _, x := range goodTrees() {
			y := p.with(x.t)
			mustMatch(t, x.name+" at "+p.name, y, spelled(y))
		}
	}
}

func TestFieldsOfAnyByte(t *testing.T) {
	for c := range 256 {
		s := string([]byte{byte(c)})
		for _, x := range []api.Tree{
			cut(s), leaf(s, "v"), leaf("k", s), dark(none, s, "d", none), dark(none, "k", s, none), cut(s + s),
			node(cut(s), s, s, dark(none, s, s, none)),
		} {
			mustMatch(t, fmt.Sprintf("the byte %x", c), x, spelled(x))
		}
	}
}

// P10.1: what is not written.

// longDigests are parts with a Digest that is longer than a digest may be.
func longDigests() []named {
	var out []named
	for _, n := range []int{33, 34, 64, 80, 81, 127, 128, 247, 248, 255, 256, 256 + 32, 1024, 1025, 5000, 1<<16 + 1} {
		out = append(out,
			named{fmt.Sprintf("a cut of %d bytes", n), cut(filled(n, 1))},
			named{fmt.Sprintf("a dark node of %d bytes", n), dark(none, "k", filled(n, 2), none)},
			named{fmt.Sprintf("a dark node of %d bytes above cuts", n), dark(cut("a"), "", filled(n, 3), cut("b"))},
			named{fmt.Sprintf("a cut of %d bytes under a dark node", n), dark(none, "k", "d", cut(filled(n, 4)))},
			named{fmt.Sprintf("two of %d bytes", n), node(cut(filled(n, 5)), "k", "v", dark(none, "k", filled(n, 6), none))})
	}
	return out
}

func TestLongDigests(t *testing.T) {
	for _, p := range places() {
		for _, n := range []int{0, 1, 31, 32} {
			mustAgree(t, fmt.Sprintf("%d bytes at %s", n, p.name), p.with(dark(cut(filled(n, 1)), "k", filled(n, 2), none)))
		}
		mustNotWrite(t, "a cut of 33 bytes at "+p.name, p.with(cut(filled(33, 1))), api.ErrLong)
		mustNotWrite(t, "a dark node of 33 bytes at "+p.name, p.with(dark(none, "k", filled(33, 1), none)), api.ErrLong)
		for _, x := range longDigests() {
			mustNotWrite(t, x.name+" at "+p.name, p.with(x.t), api.ErrLong)
		}
	}
}

// malformed are parts that are not as defined, none of them deep.
func malformed() []named {
	two, long := []api.Tree{none, none}, []byte(filled(33, 1))
	key, sum := []byte("k"), []byte(filled(32, 2))
	out := []named{
		{"a none with a Key", api.Tree{Key: key}},
		{"a none with a Value", api.Tree{Value: key}},
		{"a none with a Digest", api.Tree{Digest: sum}},
		{"a none with a long Digest", api.Tree{Digest: long}},
		{"a none with Kids", api.Tree{Kids: two}},
		{"a node without Kids", api.Tree{Kind: 1, Key: key}},
		{"a node with one Kid", api.Tree{Kind: 1, Key: key, Kids: two[:1]}},
		{"a node with three Kids", api.Tree{Kind: 1, Key: key, Kids: []api.Tree{none, none, none}}},
		{"a node with a Digest", api.Tree{Kind: 1, Key: key, Digest: sum, Kids: two}},
		{"a node with a long Digest", api.Tree{Kind: 1, Key: key, Digest: long, Kids: two}},
		{"a node with a Key of 81", leaf(filled(81, 3), "v")},
		{"a node with a Value of 1025", leaf("k", filled(1025, 4))},
		{"a dark node without Kids", api.Tree{Kind: 2, Key: key, Digest: sum}},
		{"a dark node with one Kid", api.Tree{Kind: 2, Key: key, Digest: sum, Kids: two[:1]}},
		{"a dark node with three Kids", api.Tree{Kind: 2, Key: key, Digest: sum, Kids: []api.Tree{none, none, none}}},
		{"a dark node with a Value", api.Tree{Kind: 2, Key: key, Value: key, Digest: sum, Kids: two}},
		{"a dark node with a Key of 81", dark(none, filled(81, 5), "d", none)},
		{"a cut with a Key", api.Tree{Kind: 3, Key: key, Digest: sum}},
		{"a cut with a Value", api.Tree{Kind: 3, Value: key, Digest: sum}},
		{"a cut with Kids", api.Tree{Kind: 3, Digest: sum, Kids: two}},
		{"a long cut with a Key", api.Tree{Kind: 3, Key: key, Digest: long}},
	}
	for _, kind := range []int{-1, -2, -256, -255, math.MinInt, 4, 5, 255, 256, 257, 258, 259, 1<<16 + 1, 1<<32 + 1, 1<<32 + 3, math.MaxInt} {
		out = append(out, named{fmt.Sprintf("the kind %d", kind), api.Tree{Kind: kind}},
			named{fmt.Sprintf("the kind %d with Kids", kind), api.Tree{Kind: kind, Key: key, Kids: two}},
			named{fmt.Sprintf("the kind %d with a Digest", kind), api.Tree{Kind: kind, Digest: sum}})
	}
	return out
}

func TestMalformedTrees(t *testing.T) {
	for _, p := range places() {
		for _, x := range malformed() {
			mustNotWrite(t, x.name+" at "+p.name, p.with(x.t), api.ErrForm)
		}
	}
}

// TestFirstErrors puts a part that is not as defined and a long Digest on both
// sides of each other, in trees that are deep enough and in those that are not.
func TestFirstErrors(t *testing.T) {
	deep := stacked(65, none, steps()[0].with)
	fine := leaf("f", "g")
	for flaws := range 1 << 3 {
		pick := func(bit int, bad api.Tree) api.Tree {
			if flaws>>bit&1 == 1 {
				return bad
			}
			return fine
		}
		for _, bad := range malformed() {
			for _, long := range []api.Tree{cut(filled(33, 1)), dark(none, "k", filled(33, 2), none)} {
				kids := []api.Tree{pick(0, deep), pick(1, bad.t), pick(2, long)}
				want := error(nil)
				switch {
				case flaws&1 != 0:
					want = api.ErrDepth
				case flaws&2 != 0:
					want = api.ErrForm
				case flaws&4 != 0:
					want = api.ErrLong
				}
				for _, at := range [][3]int{{0, 1, 2}, {0, 2, 1}, {1, 0, 2}, {1, 2, 0}, {2, 0, 1}, {2, 1, 0}} {
					x := node(kids[at[0]], "a", "b", node(kids[at[1]], "c", "d", kids[at[2]]))
					if _, err := code.Write(x); err != want {
						t.Errorf("Write with the flaws %b (%s) in the order %v: %v, want %v", flaws, bad.name, at, err, want)
					}
				}
			}
		}
	}
	long := dark(none, "k", filled(33, 3), none)
	mustNotWrite(t, "a long Digest above a malformed part", dark(cut("a"), "k", filled(33, 3), api.Tree{Kind: 4}), api.ErrForm)
	mustNotWrite(t, "a long Digest above what is deep", dark(cut("a"), "k", filled(33, 3), deep), api.ErrDepth)
	mustNotWrite(t, "a long Digest below what is deep", stacked(64, long, steps()[1].with), api.ErrDepth)
	mustNotWrite(t, "a long Digest at the last level", stacked(63, long, steps()[1].with), api.ErrLong)
	mustNotWrite(t, "a long cut below the last level", stacked(64, cut(filled(33, 3)), steps()[1].with), api.ErrLong)
	mustNotWrite(t, "a malformed part at the depth 65", stacked(64, leaf(filled(81, 1), ""), steps()[3].with), api.ErrDepth)
	mustNotWrite(t, "a Digest longer than any, malformed", api.Tree{Digest: []byte(filled(5000, 1))}, api.ErrForm)
}

// Depths: P10.1 and P10.2.

func TestDepths(t *testing.T) {
	for _, step := range steps() {
		for _, end := range []api.Tree{none, cut(""), cut("d"), cut(filled(32, 1))} {
			for _, n := range []int{1, 2, 31, 32, 33, 62, 63, 64} {
				what := fmt.Sprintf("%d %s above %s", n, step.name, told(end))
				x := stacked(n, end, step.with)
				b := spelled(x)
				mustMatch(t, what, x, b)
				mustNotRead(t, what+", and a byte", b+"\x00", api.ErrMore)
				mustNotRead(t, what+", less a byte", b[:len(b)-1], api.ErrForm)
			}
			for _, n := range []int{65, 66, 67, 127, 128, 129, 255, 256, 257, 320, 1000} {
				what := fmt.Sprintf("%d %s above %s", n, step.name, told(end))
				x := stacked(n, end, step.with)
				b := spelled(x)
				mustNotWrite(t, what, x, api.ErrDepth)
				mustNotRead(t, what, b, api.ErrForm)
				mustNotRead(t, what+", and a byte", b+"\x00", api.ErrForm)
				mustNotRead(t, what+", and many", b+b, api.ErrForm)
				mustNotRead(t, what+", less a byte", b[:len(b)-1], api.ErrForm)
			}
		}
	}
}

// TestOnlyOneWayIsDeep: the depth is that of the longest way, wherever it is.
func TestOnlyOneWayIsDeep(t *testing.T) {
	for _, step := range steps() {
		for _, p := range places()[1:6] {
			for n := 58; n <= 66; n++ {
				x := p.with(stacked(n, none, step.with))
				what := fmt.Sprintf("%d %s at %s", n, step.name, p.name)
				b := spelled(x)
				if tree.Check(x) == nil {
					mustMatch(t, what, x, b)
					mustNotRead(t, what+", and a byte", b+"\x01", api.ErrMore)
				} else {
					mustNotWrite(t, what, x, api.ErrDepth)
					mustNotRead(t, what, b, api.ErrForm)
					mustNotRead(t, what+", and a byte", b+"\x01", api.ErrForm)
				}
			}
		}
	}
	both := node(stacked(63, none, steps()[0].with), "k", "v", stacked(63, none, steps()[0].with))
	mustMatch(t, "two ways of 64", both, spelled(both))
}

// TestEndlessNodes: what is too deep is no tree, however many bytes follow.
func TestEndlessNodes(t *testing.T) {
	for _, step := range []string{"\x01\x00\x00", "\x02\x00\x00", "\x01\x01k\x01v", "\x01\x00\x00\x00", "\x02\x01k\x01d\x03\x01c", "\x01\x01\x01\x01\x01", "\x02\x02\x02\x02\x02\x02\x02"} {
		for _, n := range []int{65, 1000, 1 << 20} {
			b := strings.Repeat(step, n)
			mustNotRead(t, "nodes without end", b, api.ErrForm)
			mustNotRead(t, "nodes with an end", b+"\x00", api.ErrForm)
			mustNotRead(t, "nodes with as many ends", b+strings.Repeat("\x00", n+1), api.ErrForm)
		}
	}
}

// TestTreesWithinThemselves: such a tree has no end to its depth.
func TestTreesWithinThemselves(t *testing.T) {
	for kind := range 4 {
		x := api.Tree{Kind: kind, Key: []byte("k"), Kids: make([]api.Tree, 2)}
		x.Kids[0], x.Kids[1] = leaf("a", "b"), x
		mustNotWrite(t, fmt.Sprintf("the kind %d within itself", kind), x, api.ErrDepth)
	}
}

// P10.2: what is no encoding.

// spots are the bytes before and behind a part's encoding at each place.
func spots() (out [][2]string) {
	for _, p := range places() {
		before, behind, _ := strings.Cut(spelled(p.with(cut("<here>"))), spelled(cut("<here>")))
		out = append(out, [2]string{before, behind})
	}
	return out
}

// mustBeNoPart wants bytes to be no encoding at any place, whatever follows.
func mustBeNoPart(t testing.TB, what string, b string) {
	t.Helper()
	for i, spot := range spots() {
		what := fmt.Sprintf("%s at %s", what, places()[i].name)
		mustNotRead(t, what, spot[0]+b+spot[1], api.ErrForm)
		mustNotRead(t, what+", and bytes", spot[0]+b+spot[1]+"\x00\x00", api.ErrForm)
		mustNotRead(t, what+", and no more", spot[0]+b, api.ErrForm)
	}
}

func TestProperBeginnings(t *testing.T) {
	for _, p := range places() {
		for _, x := range goodTrees() {
			b := spelled(p.with(x.t))
			for n := range len(b) {
				mustNotRead(t, fmt.Sprintf("the first %d bytes of %s at %s", n, x.name, p.name), b[:n], api.ErrForm)
			}
		}
	}
}

func TestKindsThatThereAreNot(t *testing.T) {
	for kind := 4; kind < 256; kind++ {
		b := string([]byte{byte(kind)})
		mustBeNoPart(t, fmt.Sprintf("the kind %d", kind), b)
		for _, behind := range []string{"\x00", "\x01d", "\x01k\x01v\x00\x00", "\x00\x00\x00\x00"} {
			mustBeNoPart(t, fmt.Sprintf("the kind %d and fields", kind), b+behind)
		}
	}
}

// fieldAt is a field of at most most bytes, with what stands before and behind.
type fieldAt struct {
	name, before, behind string
	most                 int
}

// fields are the fields of each kind.
func fields() []fieldAt {
	return []fieldAt{
		{"a key", "\x01", "\x01v\x00\x00", 80},
		{"a value", "\x01\x01k", "\x00\x00", 1024},
		{"a dark node's key", "\x02", "\x01d\x00\x00", 80},
		{"a dark digest", "\x02\x01k", "\x00\x00", 32},
		{"a cut's digest", "\x03", "", 32},
	}
}

func TestFieldsThatAreTooLong(t *testing.T) {
	for _, f := range fields() {
		fine := f.before + number(f.most) + filled(f.most, 1) + f.behind
		if got, err := code.Read([]byte(fine)); err != nil || spelled(got) != fine {
			t.Errorf("%s of %d bytes: %s, %v", f.name, f.most, told(got), err)
		}
		for _, n := range []int{1, 2, 3, 48, 100, 128, 168, 215, 216, 247, 248, 256, 944, 1024, 5000, 60000} {
			n += f.most
			b := f.before + number(n) + filled(n, 1) + f.behind
			if n < 2000 {
				mustBeNoPart(t, fmt.Sprintf("%s of %d bytes", f.name, n), b)
			}
			mustNotRead(t, fmt.Sprintf("%s of %d bytes", f.name, n), b, api.ErrForm)
		}
	}
}

// padded is a number as n bytes behind the byte that tells n, whether it needs
// as many or not.
func padded(v uint64, n int) string {
	out := []byte{byte(247 + n)}
	for i := n - 1; i >= 0; i-- {
		out = append(out, byte(v>>(8*i)))
	}
	return string(out)
}

// TestLengthsNotAsCoderEncodes: each length has one encoding alone.
func TestLengthsNotAsCoderEncodes(t *testing.T) {
	for _, f := range fields() {
		for _, n := range []int{0, 1, 2, 31, 32, 80, 127, 128, 247, 248, 255, 256, 1024} {
			if n > f.most {
				continue
			}
			value := filled(n, 1)
			for wide := 1; wide <= 8; wide++ {
				head := padded(uint64(n), wide)
				if head == number(n) || n >= 1<<(8*wide) {
					continue
				}
				mustBeNoPart(t, fmt.Sprintf("%s of %d bytes, told by %x", f.name, n, head), f.before+head+value+f.behind)
			}
		}
	}
}

// TestLengthsBeyondWhatIsLeft tries those too which are only taken for small
// ones if bytes of them are lost, or if something is added to them.
func TestLengthsBeyondWhatIsLeft(t *testing.T) {
	for _, f := range fields() {
		for _, left := range []int{0, 1, 2, 31, 32, 79, 80, 1023, 1024, 1100} {
			rest := filled(left, 1)
			for n := left + 1; n <= min(left+20, f.most); n++ {
				mustNotRead(t, fmt.Sprintf("%s of %d bytes, of which %d are there", f.name, n, left), f.before+number(n)+rest, api.ErrForm)
			}
			for _, v := range []uint64{
				1<<31 - 1, 1 << 31, 1<<31 + 1, 1<<32 - 1, 1 << 32, 1<<32 + 1, 1<<40 + 1, 1<<48 + 1, 1<<56 + 1, api.MaxNumber,
				math.MaxInt64, 1 << 63, 1<<63 + 1, math.MaxUint64 - 1, math.MaxUint64,
				1<<32 + uint64(left), 1<<63 + uint64(left), -uint64(left) - 1, 1<<16 + uint64(left),
			} {
				wide := 1
				for v>>(8*wide) != 0 && wide < 8 {
					wide++
				}
				mustNotRead(t, fmt.Sprintf("%s of %d bytes, of which %d are there", f.name, v, left), f.before+padded(v, wide)+rest, api.ErrForm)
			}
		}
		for wide := 1; wide <= 8; wide++ {
			mustNotRead(t, f.name+" whose length is cut off", f.before+padded(0xfefefefefefefefe, wide)[:wide], api.ErrForm)
		}
	}
}

func TestBytesBehind(t *testing.T) {
	var trees []api.Tree
	for _, p := range places() {
		for _, x := range goodTrees() {
			trees = append(trees, p.with(x.t))
		}
	}
	for i, x := range trees {
		b := spelled(x)
		for c := range 256 {
			mustNotRead(t, fmt.Sprintf("an encoding and the byte %x", c), b+string([]byte{byte(c)}), api.ErrMore)
		}
		for _, more := range []string{"\x00\x00", "\x01\x00", "\x04\x04\x04", "\xff\xff\xff", filled(1000, 1), strings.Repeat("\x00", 5000), strings.Repeat("\x01\x00\x00", 2000)} {
			mustNotRead(t, "an encoding and bytes", b+more, api.ErrMore)
		}
		for j := range 5 {
			mustNotRead(t, "two encodings", b+spelled(trees[(i+j*j)%len(trees)]), api.ErrMore)
		}
		mustNotRead(t, "an encoding thrice", b+b+b, api.ErrMore)
	}
	mustNotRead(t, "an encoding and a great many bytes", "\x00"+strings.Repeat("\x00", 1<<22), api.ErrMore)
	mustNotRead(t, "what is no encoding and a great many bytes", "\x04"+strings.Repeat("\x00", 1<<22), api.ErrForm)
}

// Small trees and short strings.

// smallTrees are all trees of up to three parts whose fields are among some.
func smallTrees(some []string) []api.Tree {
	ends := []api.Tree{none}
	for _, s := range some {
		ends = append(ends, cut(s))
	}
	out := slices.Clone(ends)
	for _, key := range some {
		for _, s := range some {
			for _, l := range ends {
				for _, r := range ends {
					out = append(out, node(l, key, s, r), dark(l, key, s, r))
				}
			}
		}
	}
	return out
}

func TestAllSmallTrees(t *testing.T) {
	for _, x := range smallTrees([]string{"", "\x00", "\x01", "\x02", "\x03", "\x04", "a", "\xff"}) {
		mustMatch(t, "a small tree", x, spelled(x))
	}
	for c := range 256 {
		for _, x := range smallTrees([]string{"", string([]byte{byte(c)})}) {
			mustMatch(t, "a small tree", x, spelled(x))
		}
	}
}

// strung are all strings of n bytes over some.
func strung(n int, some string) []string {
	out := []string{""}
	for range n {
		var longer []string
		for _, s := range out {
			for _, c := range []byte(some) {
				longer = append(longer, s+string([]byte{c}))
			}
		}
		out = longer
	}
	return out
}

// encodings are the trees whose encodings have at most n bytes, all of whose
// fields are over some, by their encodings. It builds them from below and reads
// nothing.
func encodings(n int, some string) map[string]api.Tree {
	fields := make([][]string, n+1) // by the length of the encoding
	for i := 1; i <= n; i++ {
		fields[i] = strung(i-1, some)
	}
	trees := make([][]api.Tree, n+1)
	trees[1] = []api.Tree{none}
	for size := 2; size <= n; size++ {
		for _, s := range fields[size-1] {
			trees[size] = append(trees[size], cut(s))
		}
		for i := 1; i <= size; i++ {
			for j := 1; i+j <= size; j++ {
				for k := 1; i+j+k <= size-2; k++ {
					left := size - 1 - i - j - k
					for _, key := range fields[i] {
						for _, s := range fields[j] {
							for _, l := range trees[k] {
								for _, r := range trees[left] {
									trees[size] = append(trees[size], node(l, key, s, r), dark(l, key, s, r))
								}
							}
						}
					}
				}
			}
		}
	}
	out := map[string]api.Tree{}
	for _, x := range slices.Concat(trees...) {
		out[spelled(x)] = x
	}
	return out
}

// mustBeAsListed wants of each string what the list of all encodings tells: the
// tree of the one that it is, or begins with.
func mustBeAsListed(t *testing.T, all map[string]api.Tree, b string) error {
	t.Helper()
	var found []int
	for n := range len(b) + 1 {
		if _, is := all[b[:n]]; is {
			found = append(found, n)
		}
	}
	switch {
	case len(found) > 1:
		t.Errorf("%x begins with several encodings: %v", b, found)
	case len(found) == 0:
		mustNotRead(t, "what begins with no encoding", b, api.ErrForm)
	case found[0] < len(b):
		mustNotRead(t, "what begins with an encoding", b, api.ErrMore)
	default:
		mustMatch(t, "a short encoding", all[b], b)
	}
	return mustAgreeOn(t, "a short string", []byte(b))
}

func TestAllShortStrings(t *testing.T) {
	for _, c := range []struct {
		most int
		some string
	}{
		{4, "\x00\x01\x02\x03\x04\x05\x1f\x20\x21\x50\xf7\xf8\xf9\xff"},
		{7, "\x00\x01\x02\x03"},
		{8, "\x00\x01\x03"},
		{10, "\x00\x01"},
	} {
		all, counts := encodings(c.most, c.some), map[error]int{}
		for n := range c.most + 1 {
			for _, b := range strung(n, c.some) {
				counts[mustBeAsListed(t, all, b)]++
			}
		}
		if counts[nil] == 0 || counts[api.ErrForm] == 0 || counts[api.ErrMore] == 0 {
			t.Errorf("the short strings over %x met only %v", c.some, counts)
		}
	}
}

func TestAllStringsOfTwoBytes(t *testing.T) {
	every := make([]byte, 256)
	for c := range every {
		every[c] = byte(c)
	}
	all := encodings(2, "")
	for n := range 3 {
		for _, b := range strung(n, string(every)) {
			mustBeAsListed(t, all, b)
		}
	}
}

// P10.3

func roomyBytes(b []byte) []byte {
	return slices.Concat(b, bytes.Repeat([]byte{0xee}, 100))[:len(b)]
}

// roomy returns a tree whose byte strings and Kids lie within longer arrays: a
// function that appends to one of them would write into what stands behind it.
func roomy(x api.Tree) api.Tree {
	x.Key, x.Value, x.Digest = roomyBytes(x.Key), roomyBytes(x.Value), roomyBytes(x.Digest)
	kids := append(slices.Clone(x.Kids), leaf("y", "1"), leaf("z", "2"))
	x.Kids = kids[:len(x.Kids)]
	for i := range x.Kids {
		x.Kids[i] = roomy(x.Kids[i])
	}
	return x
}

// memory is all memory of a tree's bytes, what stands behind them among it.
func memory(x api.Tree) [][]byte {
	out := [][]byte{x.Key[:cap(x.Key)], x.Value[:cap(x.Value)], x.Digest[:cap(x.Digest)]}
	for _, kid := range x.Kids[:cap(x.Kids)] {
		out = append(out, memory(kid)...)
	}
	return out
}

// whole tells all that a tree's memory holds.
func whole(x api.Tree) string {
	out := fmt.Sprintf("%d %x %x %x %d %d %d %d(", x.Kind, x.Key[:cap(x.Key)], x.Value[:cap(x.Value)], x.Digest[:cap(x.Digest)],
		len(x.Key), len(x.Value), len(x.Digest), len(x.Kids))
	for _, kid := range x.Kids[:cap(x.Kids)] {
		out += whole(kid) + ","
	}
	return out + ")"
}

func flip(b []byte) {
	b = b[:cap(b)]
	for i := range b {
		b[i] = ^b[i]
	}
}

// scrub overwrites all memory of a tree, its Kids too.
func scrub(x api.Tree) {
	for _, b := range [][]byte{x.Key, x.Value, x.Digest} {
		flip(b)
	}
	kids := x.Kids[:cap(x.Kids)]
	for i := range kids {
		scrub(kids[i])
		kids[i] = leaf("scrubbed", "")
	}
}

// roomyTrees are trees of all kinds, good and bad ones, each with memory of its
// own.
func roomyTrees() []named {
	out := slices.Concat(goodTrees(), malformed(), longDigests())
	for _, x := range goodTrees() {
		out = append(out, named{x.name + " in the middle", places()[5].with(x.t)})
	}
	out = append(out, named{"a tree too deep", stacked(65, none, steps()[1].with)})
	for i := range out {
		out[i].t = roomy(out[i].t)
	}
	return out
}

func TestWriteLeavesItsArgument(t *testing.T) {
	for _, x := range roomyTrees() {
		before := whole(x.t)
		code.Write(x.t)
		code.Write(x.t)
		if whole(x.t) != before {
			t.Errorf("Write modified %s", x.name)
		}
	}
}

func TestWhatIsWrittenIsFresh(t *testing.T) {
	for _, x := range roomyTrees() {
		before := whole(x.t)
		b, err := code.Write(x.t)
		other, _ := code.Write(x.t)
		kept := bytes.Clone(b)
		flip(b)
		again, againErr := code.Write(x.t)
		if whole(x.t) != before || !bytes.Equal(other, kept) || !bytes.Equal(again, kept) || againErr != err {
			t.Errorf("what was done to the bytes of %s shows elsewhere", x.name)
		}
		scrub(x.t)
		if !bytes.Equal(other, kept) || !bytes.Equal(again, kept) {
			t.Errorf("what was done to %s shows in its bytes", x.name)
		}
	}
}

// samples are encodings of all kinds and bytes that are none.
func samples() (out []string) {
	for _, x := range goodTrees() {
		for _, p := range places() {
			b := spelled(p.with(x.t))
			out = append(out, b, b+"\x00", b[:len(b)/2], "\x04"+b)
		}
	}
	return out
}

func TestReadLeavesItsArgument(t *testing.T) {
	for _, b := range samples() {
		arg := roomyBytes([]byte(b))
		before := bytes.Clone(arg[:cap(arg)])
		code.Read(arg)
		x, err := code.Read(arg)
		if !bytes.Equal(arg[:cap(arg)], before) {
			t.Errorf("Read modified %s", short(b))
		}
		kept := spelled(x)
		flip(arg)
		if spelled(x) != kept {
			t.Errorf("what was done to %s shows in the tree", short(b))
		}
		flip(arg)
		y, errY := code.Read(arg)
		scrub(x)
		z, errZ := code.Read(arg)
		if !bytes.Equal(arg[:cap(arg)], before) || spelled(y) != kept || spelled(z) != kept || errY != err || errZ != err {
			t.Errorf("what was done to the tree of %s shows elsewhere", short(b))
		}
	}
}

// lists are the lists of Kids of a tree, with what stands behind them.
func lists(x api.Tree) [][]api.Tree {
	out := [][]api.Tree{x.Kids[:cap(x.Kids)]}
	for _, kid := range x.Kids {
		out = append(out, lists(kid)...)
	}
	return out
}

// TestFieldsShareNoMemory writes a mark of its own into all memory of each list
// of a tree that was read: the marks that are found afterwards tell whether two
// lists share any.
func TestFieldsShareNoMemory(t *testing.T) {
	for _, x := range goodTrees() {
		for _, p := range places() {
			got, err := code.Read([]byte(spelled(p.with(x.t))))
			if err != nil {
				t.Fatal(err)
			}
			fields, kids := memory(got), lists(got)
			for i, field := range fields {
				copy(field, bytes.Repeat([]byte{byte(i % 251)}, len(field)))
			}
			for i, list := range kids {
				for j := range list {
					list[j] = api.Tree{Kind: i}
				}
			}
			for i, field := range fields {
				if bytes.Count(field, []byte{byte(i % 251)}) != len(field) {
					t.Errorf("%s at %s: two fields share memory", x.name, p.name)
				}
			}
			for i, list := range kids {
				if slices.ContainsFunc(list, func(kid api.Tree) bool { return kid.Kind != i }) {
					t.Errorf("%s at %s: two lists of Kids share memory", x.name, p.name)
				}
			}
		}
	}
}

// TestPartsThatShareMemory: parts of an argument may be one and the same.
func TestPartsThatShareMemory(t *testing.T) {
	shared := roomy(node(leaf("a", "1"), "b", "2", cut("\x07")))
	kids := []api.Tree{shared, shared}
	x := api.Tree{Kind: 1, Key: shared.Key, Value: shared.Key, Kids: kids}
	y := api.Tree{Kind: 2, Key: shared.Key, Digest: shared.Key, Kids: []api.Tree{x, x}}
	before := whole(shared)
	mustMatch(t, "shared parts", y, spelled(y))
	if whole(shared) != before {
		t.Error("the memory that is shared was modified")
	}
	got, err := code.Read([]byte(spelled(y)))
	if err != nil {
		t.Fatal(err)
	}
	got.Kids[0].Kids[0].Key[0] = 'x'
	got.Kids[1].Kids[1].Kids[0] = none
	if got.Kids[0].Kids[1].Key[0] != 'b' || got.Kids[1].Kids[0].Key[0] != 'b' || !same(got.Kids[0].Kids[1].Kids[0], leaf("a", "1")) {
		t.Error("parts that were read share memory")
	}
}

// TestNothingIsRetained changes arguments after they were seen, and back.
func TestNothingIsRetained(t *testing.T) {
	x := roomy(node(leaf("a", "1"), "b", "2", dark(none, "c", "\x09", cut("\x07"))))
	first := spelled(x)
	for _, b := range [][]byte{x.Key, x.Value, x.Kids[0].Key, x.Kids[0].Value, x.Kids[1].Key, x.Kids[1].Digest, x.Kids[1].Kids[1].Digest} {
		mustWrite(t, "the tree as it was", x, first)
		old := b[0]
		b[0]++
		if second := spelled(x); second == first {
			t.Error("the test changed nothing")
		} else {
			mustWrite(t, "the changed tree", x, second)
		}
		b[0] = old
	}
	mustWrite(t, "the tree as it was", x, first)
	x.Kids[0] = none
	mustMatch(t, "the tree with a Kid less", x, spelled(x))
	x.Kids[1].Kids[1].Digest = make([]byte, 33)
	mustNotWrite(t, "the tree with a long digest", x, api.ErrLong)
	x.Kids[1].Kind = 4
	mustNotWrite(t, "the tree with another kind", x, api.ErrForm)

	b := []byte(first)
	for i := range b {
		old := b[i]
		for b[i]++; b[i] != old; b[i]++ {
			mustAgreeOn(t, "a changed encoding", b)
		}
	}
	if err := mustAgreeOn(t, "the encoding as it was", b); err != nil {
		t.Error(err)
	}
}

// P10.4

// drawn is a tree of at most some depth, drawn at random.
func drawn(r *rand.Rand, depth int) api.Tree {
	bytesTo := func(most int) string {
		if r.Intn(8) == 0 {
			return filled(most, r.Uint32())
		}
		return filled(r.Intn(min(most, 1+r.Intn(most))+1), r.Uint32())
	}
	switch c := r.Intn(10); {
	case c == 0 || depth == 0 && c < 5:
		return none
	case c < 3 || depth == 0:
		return cut(bytesTo(32))
	case c < 6:
		return dark(drawn(r, depth-1), bytesTo(80), bytesTo(32), drawn(r, depth-1))
	}
	return node(drawn(r, depth-1), bytesTo(80), bytesTo(1024), drawn(r, depth-1))
}

func TestDrawnTrees(t *testing.T) {
	r := rand.New(rand.NewSource(10))
	for i := range 2000 {
		x := drawn(r, 1+i%8)
		mustMatch(t, "a drawn tree", x, spelled(x))
	}
}

// TestChangedEncodings changes encodings a little: bytes changed, left out, put
// in, doubled.
func TestChangedEncodings(t *testing.T) {
	r := rand.New(rand.NewSource(11))
	counts := map[error]int{}
	telling := []byte{0, 1, 2, 3, 4, 31, 32, 33, 80, 81, 127, 128, 247, 248, 249, 250, 255}
	for i := range 20000 {
		b := []byte(spelled(drawn(r, 1+i%4)))
		for range 1 + r.Intn(2) {
			at := r.Intn(len(b))
			switch r.Intn(6) {
			case 0:
				b[at] = byte(r.Intn(256))
			case 1:
				b[at] = telling[r.Intn(len(telling))]
			case 2:
				b[at]++
			case 3:
				b = slices.Insert(b, at, telling[r.Intn(len(telling))])
			case 4:
				b = slices.Insert(b, at, b[at:min(len(b), at+1+r.Intn(8))]...)
			case 5:
				b = append(slices.Delete(b, at, at+1), 0)
			}
		}
		counts[mustAgreeOn(t, "a changed encoding", b)]++
	}
	if counts[nil] < 100 || counts[api.ErrForm] < 100 || counts[api.ErrMore] < 100 {
		t.Errorf("the changed encodings met only %v", counts)
	}
}

// TestNoEncodingBeginsAnother looks at neighbours alone: in order, what begins
// with an encoding follows it.
func TestNoEncodingBeginsAnother(t *testing.T) {
	var all []string
	add := func(x api.Tree) {
		b, err := code.Write(x)
		if err != nil {
			t.Fatal(err)
		}
		all = append(all, string(b))
	}
	for _, x := range smallTrees([]string{"", "\x00", "\x01", "\x03", "\x00\x00", "\x01\x00", "\x03\x00"}) {
		add(x)
	}
	for _, x := range encodings(8, "\x00\x01") {
		add(x)
	}
	for _, x := range goodTrees() {
		for _, p := range places() {
			add(p.with(x.t))
		}
	}
	r := rand.New(rand.NewSource(12))
	for range 1000 {
		add(drawn(r, 3))
	}
	slices.Sort(all)
	all = slices.Compact(all)
	for i := 1; i < len(all); i++ {
		if strings.HasPrefix(all[i], all[i-1]) {
			t.Errorf("%x begins with %x", all[i], all[i-1])
		}
	}
}

// TestTreesHaveEncodingsOfTheirOwn: two trees that differ are written as two
// strings.
func TestTreesHaveEncodingsOfTheirOwn(t *testing.T) {
	seen := map[string]api.Tree{}
	for _, x := range smallTrees([]string{"", "\x00", "\x01", "\x02", "\x00\x00", "\x01\x00"}) {
		b, err := code.Write(x)
		if err != nil {
			t.Fatal(err)
		}
		if y, is := seen[string(b)]; is && !same(x, y) {
			t.Errorf("%x is the encoding of two trees", b)
		}
		seen[string(b)] = x
	}
}

// TestProofsOnTheirWay: a proof that was written and read proves the same.
func TestProofsOnTheirWay(t *testing.T) {
	x := none
	var err error
	for i := range 100 {
		if x, err = avl.Put(x, []byte(fmt.Sprint("key ", i*37%100)), []byte(filled(i*10, uint32(i)))); err != nil {
			t.Fatal(err)
		}
	}
	for _, s := range []api.Span{
		{Open: true}, {}, {From: []byte("key 3"), To: []byte("key 5")}, {From: []byte("key 42"), To: []byte("key 42\x00")},
		{From: []byte("key 9"), Open: true}, {To: []byte("key 2")}, {From: []byte("lock"), Open: true},
	} {
		for _, w := range []int{1, 2, 20, 32} {
			root, err := tree.Digest(w, x)
			if err != nil {
				t.Fatal(err)
			}
			p, err := proof.Prove(w, x, s)
			if err != nil {
				t.Fatal(err)
			}
			mustMatch(t, "a proof", p, spelled(p))
			b, _ := code.Write(p)
			q, err := code.Read(b)
			if err != nil {
				t.Fatal(err)
			}
			want, wantErr := check.Check(w, root, s, p)
			got, gotErr := check.Check(w, root, s, q)
			if gotErr != wantErr || fmt.Sprint(got) != fmt.Sprint(want) {
				t.Errorf("the proof of %v of width %d shows %v, %v on arrival", s, w, got, gotErr)
			}
		}
	}
}

// Any trees and any bytes.

// treeOf makes a tree of any bytes, well-formed or not.
func treeOf(b []byte) api.Tree {
	next := func() int {
		if len(b) == 0 {
			return 0
		}
		n := int(b[0])
		b = b[1:]
		return n
	}
	var part func(most int) api.Tree
	part = func(most int) api.Tree {
		c := next()
		switch {
		case most == 0 || c%8 == 0:
			return none
		case c%8 == 1:
			return cut(filled(next()%34, uint32(c)))
		case c%8 < 4:
			return dark(part(most-1), filled(next()%81, uint32(c)), filled(next()%33, uint32(c)), part(most-1))
		case c%8 < 7:
			return node(part(most-1), filled(next()%81, uint32(c)), filled(next()*next()%1025, uint32(c)), part(most-1))
		case c < 64:
			return api.Tree{Kind: next()%6 - 1, Key: []byte(filled(next()%83, 1)), Kids: []api.Tree{part(most - 1), part(most - 1)}[:c/8%3]}
		case c < 128:
			return stacked(next()%70, part(most-1), steps()[next()%5].with)
		}
		return api.Tree{Kind: next()%6 - 1, Value: []byte(filled(next()%2, 2)), Digest: []byte(filled(next()%40, 3))}
	}
	return part(10)
}

func TestAllCallsOnAnything(t *testing.T) {
	for i := range 3000 {
		b := []byte(filled(i%60, uint32(i)))
		mustAgree(t, fmt.Sprintf("the tree of %x", b), treeOf(b))
		mustAgreeOn(t, "any bytes", b)
	}
}

// FuzzWrite holds Write against the document's words.
func FuzzWrite(f *testing.F) {
	f.Add([]byte{})
	f.Add([]byte("\x09\x20"))
	f.Add([]byte("\x09\x21"))
	f.Add([]byte("\x02\x01\x04\x05\x06\x05\x00\x50\x20"))
	f.Add([]byte("\x47\x40\x00\x00"))
	f.Add([]byte("\x47\x41\x01\x03"))
	f.Fuzz(func(t *testing.T, b []byte) {
		x := treeOf(b[:min(len(b), 300)])
		before := whole(x)
		mustAgree(t, "a tree", x)
		if whole(x) != before {
			t.Error("the tree was modified")
		}
	})
}

// FuzzRead holds Read against the document's words.
func FuzzRead(f *testing.F) {
	f.Add([]byte{})
	f.Add([]byte{4})
	for _, x := range goodTrees() {
		f.Add([]byte(spelled(x.t)))
		f.Add([]byte(spelled(x.t) + "\x00"))
	}
	f.Add([]byte(strings.Repeat("\x01\x00\x00", 65) + strings.Repeat("\x00", 66)))
	f.Add([]byte("\x03\xf8\x01d"))
	f.Add([]byte("\x01\x00\xff\xff\xff\xff\xff\xff\xff\xff\xff\x00\x00"))
	f.Fuzz(func(t *testing.T, b []byte) {
		kept := bytes.Clone(b)
		mustAgreeOn(t, "bytes", b)
		if !bytes.Equal(b, kept) {
			t.Error("the bytes were modified")
		}
	})
}
