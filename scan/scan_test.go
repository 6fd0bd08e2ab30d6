package scan_test

import (
	"bytes"
	"fmt"
	"math/rand"
	"slices"
	"strings"
	"testing"

	"heartwood/api"
	"heartwood/avl"
	"heartwood/scan"
)

var none = api.Tree{}

func node(l api.Tree, key, value string, r api.Tree) api.Tree {
	return api.Tree{Kind: api.TreeNode, Key: []byte(key), Value: []byte(value), Kids: []api.Tree{l, r}}
}

func leaf(key string) api.Tree { return node(none, key, "v"+key, none) }

// span is the range from one key up to another.
func span(from, to string) api.Span { return api.Span{From: []byte(from), To: []byte(to)} }

// open is the range from a key on. It has an end too, which says nothing.
func open(from, to string) api.Span { return api.Span{From: []byte(from), To: []byte(to), Open: true} }

func spell(s api.Span) string {
	if s.Open {
		return fmt.Sprintf("from %q on (To %q)", s.From, s.To)
	}
	return fmt.Sprintf("from %q to %q", s.From, s.To)
}

// filled returns n bytes without a short period, so that a mixed-up order shows.
func filled(n int, seed uint32) []byte {
	out := make([]byte, n)
	x := seed*2654435761 + 1
	for i := range out {
		x = x*1664525 + 1013904223
		out[i] = byte(x >> 24)
	}
	return out
}

// less is the order of the document, byte by byte.
func less(a, b string) bool {
	for i := 0; ; i++ {
		if i == len(a) || i == len(b) {
			return len(a) < len(b)
		}
		if a[i] != b[i] {
			return a[i] < b[i]
		}
	}
}

// spelledIn is P6.1 by the document's words.
func spelledIn(s api.Span, key string) bool {
	if less(key, string(s.From)) {
		return false
	}
	return s.Open || less(key, string(s.To))
}

// bound is a key that may be absent. An absent one has bytes all the same,
// which say nothing.
type bound struct {
	key string
	has bool
}

func (b bound) String() string {
	if b.has {
		return fmt.Sprintf("%q", b.key)
	}
	return fmt.Sprintf("none (%q)", b.key)
}

func present(key string) bound { return bound{key, true} }

func absent(key string) bound { return bound{key, false} }

func empty(s api.Span, low, high bound) bool {
	return scan.Empty(s, []byte(low.key), []byte(high.key), low.has, high.has)
}

func mustBeEmpty(t testing.TB, s api.Span, low, high bound, want bool) {
	t.Helper()
	if got := empty(s, low, high); got != want {
		t.Errorf("Empty %s, between %v and %v = %v", spell(s), low, high, got)
	}
}

// strung are all strings of those letters with at most that many of them.
func strung(letters string, most int) []string {
	out := []string{""}
	for from := 0; most > 0; most-- {
		to := len(out)
		for _, s := range out[from:to] {
			for i := range len(letters) {
				out = append(out, s+letters[i:i+1])
			}
		}
		from = to
	}
	return out
}

// put makes a balanced tree of keys, each with the value v followed by the key.
func put(t testing.TB, keys ...string) api.Tree {
	t.Helper()
	x := none
	for _, key := range keys {
		var err error
		if x, err = avl.Put(x, []byte(key), []byte("v"+key)); err != nil {
			t.Fatal(err)
		}
	}
	return x
}

// pairsOf are all pairs of a full tree, in the order of its keys.
func pairsOf(t api.Tree) []api.Pair {
	if len(t.Kids) != 2 {
		return nil
	}
	return slices.Concat(pairsOf(t.Kids[0]), []api.Pair{{Key: t.Key, Value: t.Value}}, pairsOf(t.Kids[1]))
}

// samePairs compares by what is said: nil and empty are one.
func samePairs(a, b []api.Pair) bool {
	return slices.EqualFunc(a, b, func(p, q api.Pair) bool {
		return bytes.Equal(p.Key, q.Key) && bytes.Equal(p.Value, q.Value)
	})
}

// spelledRange is P6.3 by the document's words, for a balanced tree.
func spelledRange(t api.Tree, s api.Span) []api.Pair {
	var out []api.Pair
	for _, p := range pairsOf(t) {
		if spelledIn(s, string(p.Key)) {
			out = append(out, p)
		}
	}
	return out
}

func mustRange(t testing.TB, x api.Tree, s api.Span) []api.Pair {
	t.Helper()
	got, err := scan.Range(x, s)
	if err != nil {
		t.Fatalf("Range %s: %v", spell(s), err)
	}
	if want := spelledRange(x, s); !samePairs(got, want) {
		t.Errorf("Range %s = %q, want %q", spell(s), got, want)
	}
	return got
}

// mustShow wants the pairs of these keys, each a letter.
func mustShow(t testing.TB, x api.Tree, s api.Span, keys string) {
	t.Helper()
	got := mustRange(t, x, s)
	shown := ""
	for _, p := range got {
		if string(p.Value) != "v"+string(p.Key) {
			t.Errorf("Range %s: the value of %q is %q", spell(s), p.Key, p.Value)
		}
		shown += string(p.Key)
	}
	if shown != keys {
		t.Errorf("Range %s shows %q, want %q", spell(s), shown, keys)
	}
}

// mustRefuse wants the error itself, a plain Code, and no pairs beside it.
func mustRefuse(t testing.TB, what string, x api.Tree, s api.Span) {
	t.Helper()
	if got, err := scan.Range(x, s); err != api.ErrForm || len(got) != 0 {
		t.Errorf("Range of %s, %s = %q, %v", what, spell(s), got, err)
	}
}

// shapes are the trees of all shapes with those keys, balanced or not.
func shapes(keys string) []api.Tree {
	if keys == "" {
		return []api.Tree{none}
	}
	var out []api.Tree
	for i := range len(keys) {
		for _, l := range shapes(keys[:i]) {
			for _, r := range shapes(keys[i+1:]) {
				out = append(out, node(l, keys[i:i+1], "v"+keys[i:i+1], r))
			}
		}
	}
	return out
}

// letters are every other one, so that there are keys between them.
const letters = "bdfhjlnprt"

// spansOf are the ranges with all those ends, whichever is the lesser one, and
// those that are open.
func spansOf(ends []string) []api.Span {
	var out []api.Span
	for _, from := range ends {
		for _, to := range ends {
			out = append(out, span(from, to), open(from, to))
		}
	}
	return out
}

// P6.1

func TestIn(t *testing.T) {
	for _, c := range []struct {
		s    api.Span
		key  string
		want bool
	}{
		// The document's example.
		{api.Span{From: []byte("b"), Open: true}, "b", true},
		{span("b", "b"), "b", false},
		// From is in the range, To is not.
		{span("b", "d"), "a", false},
		{span("b", "d"), "a\xff\xff", false},
		{span("b", "d"), "", false},
		{span("b", "d"), "b", true},
		{span("b", "d"), "b\x00", true},
		{span("b", "d"), "c", true},
		{span("b", "d"), "c\xff\xff", true},
		{span("b", "d"), "d", false},
		{span("b", "d"), "d\x00", false},
		{span("b", "d"), "e", false},
		{span("b", "d"), "\xff", false},
		// A beginning is less, however short.
		{span("bb", "bbb"), "b", false},
		{span("bb", "bbb"), "bb", true},
		{span("bb", "bbb"), "bba", true},
		{span("bb", "bbb"), "bbb", false},
		{span("b", "b\x00"), "b", true},
		{span("b", "b\x00"), "b\x00", false},
		{span("b", "b\x00\x00"), "b\x00", true},
		{span("b", "b\x00\x00"), "b\x00\x00", false},
		// Bytes are without a sign.
		{span("\x7f", "\x81"), "\x80", true},
		{span("\x00", "\x80"), "\xff", false},
		{span("\x80", "\xff"), "\x7f", false},
		// An open range has no end, whatever To is.
		{open("b", ""), "a", false},
		{open("b", ""), "b", true},
		{open("b", ""), "\xff\xff\xff", true},
		{open("b", "a"), "c", true},
		{open("b", "b"), "b", true},
		{open("b", "c"), "d", true},
		{open("b", "c"), "a", false},
		{open("", ""), "", true},
		{open("", ""), "\xff", true},
		// The empty key at either end.
		{span("", ""), "", false},
		{span("", ""), "a", false},
		{span("", "\x00"), "", true},
		{span("", "\x00"), "\x00", false},
		{span("", "b"), "a", true},
		{span("", "b"), "b", false},
		{span("b", ""), "", false},
		{span("b", ""), "a", false},
		{span("b", ""), "b", false},
		{span("b", ""), "c", false},
		// From greater than To.
		{span("d", "b"), "a", false},
		{span("d", "b"), "b", false},
		{span("d", "b"), "c", false},
		{span("d", "b"), "d", false},
		{span("d", "b"), "e", false},
		// The zero range.
		{api.Span{}, "", false},
		{api.Span{}, "a", false},
		{api.Span{Open: true}, "", true},
	} {
		if got := scan.In(c.s, []byte(c.key)); got != c.want {
			t.Errorf("In %s of %q = %v", spell(c.s), c.key, got)
		}
	}
	for _, s := range []api.Span{span("", "\x00"), {Open: true}} {
		if !scan.In(s, nil) || !scan.In(s, []byte{}) {
			t.Errorf("In %s of no bytes = false", spell(s))
		}
	}
}

// TestInOfAllShortKeys: all ranges and keys of up to three letters.
func TestInOfAllShortKeys(t *testing.T) {
	keys := strung("\x00a\xff", 3)
	for _, s := range spansOf(strung("\x00a\xff", 2)) {
		for _, key := range keys {
			if got := scan.In(s, []byte(key)); got != spelledIn(s, key) {
				t.Errorf("In %s of %q = %v", spell(s), key, got)
			}
		}
	}
}

// TestInOfLongKeys: a key that no tree may have can be asked for all the same.
func TestInOfLongKeys(t *testing.T) {
	long := string(filled(100000, 1))
	for _, n := range []int{79, 80, 81, 1024, 99999} {
		s := span(long[:n], long[:n+1])
		for _, c := range []struct {
			n    int
			want bool
		}{{n - 1, false}, {n, true}, {n + 1, false}} {
			if got := scan.In(s, []byte(long[:c.n])); got != c.want {
				t.Errorf("In the range from %d bytes to one more of %d bytes = %v", n, c.n, got)
			}
		}
	}
}

func TestPoint(t *testing.T) {
	long := string(filled(79, 1))
	for _, key := range append(strung("\x00a\xff", 2), long, long+"\x00", long+"\xff", long+"aa", string(filled(100000, 2))) {
		got := scan.Point([]byte(key))
		if string(got.From) != key || string(got.To) != key+"\x00" || got.Open {
			t.Errorf("Point of %d bytes %.20q = from %.20q to %.20q, %v", len(key), key, got.From, got.To, got.Open)
		}
	}
	if got := scan.Point(nil); len(got.From) != 0 || string(got.To) != "\x00" || got.Open {
		t.Errorf("Point of nil = %s", spell(got))
	}
}

// TestPointHoldsItsKeyAlone: no key beside it, not those next to it either.
func TestPointHoldsItsKeyAlone(t *testing.T) {
	keys := strung("\x00\x01a\xfe\xff", 3)
	for _, key := range strung("\x00a\xff", 2) {
		point := scan.Point([]byte(key))
		for _, other := range keys {
			if got := scan.In(point, []byte(other)); got != (other == key) {
				t.Errorf("In the point range of %q of %q = %v", key, other, got)
			}
		}
	}
}

// P6.2

func TestEmptyOfOrdinaryRanges(t *testing.T) {
	a, b, c, d, e := present("a"), present("b"), present("c"), present("d"), present("e")
	gone := absent("")
	for _, x := range []struct {
		s         api.Span
		low, high bound
		want      bool
	}{
		// The document's example.
		{span("a", "b"), a, present("a\x00"), true},
		{span("a", "b"), a, gone, false},
		// Before the range, at its ends, within it, behind it.
		{span("b", "d"), a, b, true},
		{span("b", "d"), a, present("b\x00"), false},
		{span("b", "d"), a, c, false},
		{span("b", "d"), a, e, false},
		{span("b", "d"), b, c, false},
		{span("b", "d"), b, d, false},
		{span("b", "d"), c, d, false},
		{span("b", "d"), c, e, false},
		{span("b", "d"), d, e, true},
		{span("b", "d"), e, present("f"), true},
		{span("b", "d"), present(""), a, true},
		{span("b", "d"), present("c\xff\xff"), d, false},
		{span("b", "d"), present("c\xff\xff"), e, false},
		// One of them absent, or both.
		{span("b", "d"), gone, a, true},
		{span("b", "d"), gone, b, true},
		{span("b", "d"), gone, present("b\x00"), false},
		{span("b", "d"), gone, c, false},
		{span("b", "d"), gone, e, false},
		{span("b", "d"), a, gone, false},
		{span("b", "d"), b, gone, false},
		{span("b", "d"), c, gone, false},
		{span("b", "d"), d, gone, true},
		{span("b", "d"), e, gone, true},
		{span("b", "d"), gone, gone, false},
		// An absent one has bytes that say nothing.
		{span("b", "d"), absent("x"), gone, false},
		{span("b", "d"), gone, absent("a"), false},
		{span("b", "d"), absent("x"), absent("a"), false},
		{span("b", "d"), absent("x"), c, false},
		{span("b", "d"), c, absent("a"), false},
		{span("b", "d"), absent("c"), present("b"), true},
		{span("b", "d"), present("d"), absent("x"), true},
		// Open ranges.
		{open("b", ""), a, b, true},
		{open("b", ""), a, c, false},
		{open("b", ""), d, e, false},
		{open("b", ""), gone, b, true},
		{open("b", ""), gone, c, false},
		{open("b", ""), present("\xff\xff\xff"), gone, false},
		{open("b", ""), gone, gone, false},
		{open("b", "a"), c, d, false},
		{open("b", "c"), c, d, false},
		{open("", ""), gone, present(""), true},
		{open("", ""), gone, present("\x00"), false},
		{open("", ""), present(""), present("\x00"), true},
	} {
		mustBeEmpty(t, x.s, x.low, x.high, x.want)
	}
}

func TestEmptyOfRangesWithoutKeys(t *testing.T) {
	bounds := []bound{absent(""), absent("c"), present(""), present("a"), present("b"), present("c"), present("\xff\xff")}
	for _, s := range []api.Span{{}, span("b", "b"), span("c", "b"), span("b", ""), span("b\x00", "b"), span("\xff", "\x00")} {
		for _, low := range bounds {
			for _, high := range bounds {
				mustBeEmpty(t, s, low, high, true)
			}
		}
	}
}

// TestEmptyOfKeysWithNothingBetween: low is not less than high.
func TestEmptyOfKeysWithNothingBetween(t *testing.T) {
	keys := strung("\x00a\xff", 2)
	for _, low := range keys {
		for _, high := range keys {
			if less(low, high) {
				continue
			}
			for _, s := range []api.Span{{Open: true}, open("a", ""), span("", "\xff\xff\xff\xff"), span("a", "b")} {
				mustBeEmpty(t, s, present(low), present(high), true)
			}
		}
	}
}

// TestEmptyOfNeighbours: there is no key between one and itself followed by a
// byte 0, and one alone below two bytes 0.
func TestEmptyOfNeighbours(t *testing.T) {
	for _, key := range append(strung("\x00a\xff", 2), string(filled(80, 1)), string(filled(1000, 2))) {
		one, two := key+"\x00", key+"\x00\x00"
		all := api.Span{Open: true}
		mustBeEmpty(t, all, present(key), present(key), true)
		mustBeEmpty(t, all, present(key), present(one), true)
		mustBeEmpty(t, all, present(one), present(two), true)
		mustBeEmpty(t, all, present(key), present(two), false)
		mustBeEmpty(t, all, present(key), present(key+"\x01"), false)
		mustBeEmpty(t, all, present(key), present(key+"\xff"), false)
		mustBeEmpty(t, all, present(one), present(key), true)
		mustBeEmpty(t, all, present(key+"\xff"), present(key+"\xff\x00"), true)
		// The one key between them, as the range that is asked for.
		for _, s := range []api.Span{span(one, two), span(key, two), span(one, key+"\x01"), open(one, "")} {
			mustBeEmpty(t, s, present(key), present(two), false)
			mustBeEmpty(t, s, present(key), absent(""), false)
			mustBeEmpty(t, s, present(one), present(two), true)
		}
		for _, s := range []api.Span{span(key, one), span(two, key+"\x01"), span(two, ""), open(two, "")} {
			mustBeEmpty(t, s, present(key), present(two), true)
		}
		// The point range: its key alone, which none of the two may be.
		point := scan.Point([]byte(key))
		mustBeEmpty(t, point, absent(""), absent(""), false)
		mustBeEmpty(t, point, absent(""), present(one), false)
		mustBeEmpty(t, point, absent(""), present(key), true)
		mustBeEmpty(t, point, present(key), absent(""), true)
		mustBeEmpty(t, point, present(key), present(two), true)
		if key != "" {
			before := key[:len(key)-1]
			mustBeEmpty(t, point, present(before), present(one), false)
			mustBeEmpty(t, point, present(before), present(key), true)
			mustBeEmpty(t, point, present(before), absent(""), false)
		}
	}
}

// mustBeEmptyOfAll holds Empty against all keys that there are, for all ranges
// and bounds of those ends. The keys have to have one letter more than the
// longest end, and a letter between any two of the ends' letters: each key of
// any length compares with all ends as one of these does.
func mustBeEmptyOfAll(t *testing.T, ends, keys []string) {
	var bounds []bound
	for _, end := range ends {
		bounds = append(bounds, present(end))
	}
	bounds = append(bounds, absent(""), absent(ends[len(ends)-1]))
	for _, s := range spansOf(ends) {
		var in []string
		for _, key := range keys {
			if spelledIn(s, key) {
				in = append(in, key)
			}
		}
		for _, low := range bounds {
			var above []string
			for _, key := range in {
				if !low.has || less(low.key, key) {
					above = append(above, key)
				}
			}
			for _, high := range bounds {
				between := func(key string) bool { return !high.has || less(key, high.key) }
				mustBeEmpty(t, s, low, high, !slices.ContainsFunc(above, between))
			}
		}
	}
}

func TestEmptyOfAllShortKeys(t *testing.T) {
	mustBeEmptyOfAll(t, strung("\x00\x01\xff", 2), strung("\x00\x01\x02\xff", 3))
	mustBeEmptyOfAll(t, strung("\x00a", 3), strung("\x00\x01ab", 4))
	mustBeEmptyOfAll(t, strung("\x00\x7f\x80\xff", 1), strung("\x00\x01\x7f\x80\x81\xff", 2))
}

// P6.3

func TestRange(t *testing.T) {
	x := put(t, "b", "d", "f", "h", "j")
	for _, c := range []struct {
		s    api.Span
		keys string
	}{
		{span("b", "j"), "bdfh"},
		{span("b", "j\x00"), "bdfhj"},
		{span("a", "k"), "bdfhj"},
		{span("", "\xff"), "bdfhj"},
		{span("", "k"), "bdfhj"},
		{span("d", "h"), "df"},
		{span("d", "h\x00"), "dfh"},
		{span("d\x00", "h"), "f"},
		{span("c", "i"), "dfh"},
		{span("f", "g"), "f"},
		{span("f", "f\x00"), "f"},
		{span("b", "c"), "b"},
		{span("j", "k"), "j"},
		{span("", "b"), ""},
		{span("", "b\x00"), "b"},
		{span("", ""), ""},
		{span("c", "d"), ""},
		{span("f\x00", "h"), ""},
		{span("k", "z"), ""},
		{span("f", "f"), ""},
		{span("h", "d"), ""},
		{span("f", ""), ""},
		{span("j", "b"), ""},
		{open("", ""), "bdfhj"},
		{open("b", ""), "bdfhj"},
		{open("b\x00", ""), "dfhj"},
		{open("f", ""), "fhj"},
		{open("f", "a"), "fhj"},
		{open("f", "f"), "fhj"},
		{open("f", "h"), "fhj"},
		{open("j", ""), "j"},
		{open("j\x00", ""), ""},
		{open("\xff", ""), ""},
		{api.Span{}, ""},
		{api.Span{Open: true}, "bdfhj"},
	} {
		mustShow(t, x, c.s, c.keys)
	}
}

func TestRangeOfTheEmptyTree(t *testing.T) {
	for _, x := range []api.Tree{none, {Key: []byte{}, Value: []byte{}, Digest: []byte{}, Kids: []api.Tree{}}} {
		for _, s := range spansOf([]string{"", "\x00", "a", "b", "\xff"}) {
			mustShow(t, x, s, "")
		}
	}
}

// TestRangeOfSmallTrees: all shapes, balanced or not, and all ranges whose ends
// are a key or lie in a gap.
func TestRangeOfSmallTrees(t *testing.T) {
	for n := range 8 {
		ends := []string{"", "a"}
		for _, c := range letters[:n] {
			ends = append(ends, string(c), string(c)+"\x00", string(c+1))
		}
		spans := spansOf(ends)
		for _, x := range shapes(letters[:n]) {
			if avl.Is(x) {
				for _, s := range spans {
					mustRange(t, x, s)
				}
			} else {
				mustRefuse(t, "a tree that is not balanced", x, span("", "z"))
				mustRefuse(t, "a tree that is not balanced", x, span("a", "a"))
			}
		}
	}
}

// oddKeys are keys that are easily taken for each other.
func oddKeys() []string {
	long := string(filled(79, 1))
	return append(strung("\x00a\xff", 2), "\x7f", "\x80", "aaa", long, long+"\x00", long+"\x01", long+"\xff",
		strings.Repeat("\x00", 80), strings.Repeat("\xff", 80))
}

func TestRangeOfOddKeys(t *testing.T) {
	keys := oddKeys()
	x := put(t, keys...)
	ends := append(slices.Clone(keys), "\x01", "b", "\x00\x00\x00", "\xff\xff\xff",
		strings.Repeat("\x00", 81), strings.Repeat("\xff", 81), string(filled(2000, 2)))
	for _, s := range spansOf(ends) {
		mustRange(t, x, s)
	}
	if got := mustRange(t, x, api.Span{Open: true}); len(got) != len(keys) {
		t.Errorf("%d pairs of %d", len(got), len(keys))
	}
}

func TestRangeShowsValuesAsTheyAre(t *testing.T) {
	x := none
	for key, value := range map[string][]byte{"": nil, "a": {}, "b": {0}, "c": filled(1024, 1), "d": []byte("b"), "e": {0xff}} {
		var err error
		if x, err = avl.Put(x, []byte(key), value); err != nil {
			t.Fatal(err)
		}
	}
	got := mustRange(t, x, api.Span{Open: true})
	want := []string{"", "", "\x00", string(filled(1024, 1)), "b", "\xff"}
	for i, p := range got {
		if string(p.Value) != want[i] {
			t.Errorf("the value of %q is %q", p.Key, p.Value)
		}
	}
}

func TestRangeOfManyPairs(t *testing.T) {
	r := rand.New(rand.NewSource(1))
	var keys []string
	for _, i := range r.Perm(1500) {
		keys = append(keys, fmt.Sprintf("%04d", 2*i))
	}
	x := put(t, keys...)
	for range 200 {
		from, to := r.Intn(3010), r.Intn(3010)
		s := span(fmt.Sprintf("%04d", from), fmt.Sprintf("%04d", to))
		want := max(0, (min(to, 3000)+1)/2-(from+1)/2)
		if got := mustRange(t, x, s); len(got) != want {
			t.Errorf("Range %s: %d pairs, want %d", spell(s), len(got), want)
		}
		s.Open = true
		want = max(0, 1500-(from+1)/2)
		if got := mustRange(t, x, s); len(got) != want {
			t.Errorf("Range %s: %d pairs, want %d", spell(s), len(got), want)
		}
	}
}

// endless is a tree that contains itself.
func endless() api.Tree {
	kids := make([]api.Tree, 2)
	kids[0] = api.Tree{Kind: api.TreeNode, Key: []byte("a"), Kids: kids}
	return kids[0]
}

// TestRangeOfTreesThatAreNotBalanced: also where what is amiss lies outside of
// the range, or the range holds no key.
func TestRangeOfTreesThatAreNotBalanced(t *testing.T) {
	cut := api.Tree{Kind: api.TreeCut, Digest: filled(32, 1)}
	dark := api.Tree{Kind: api.TreeDark, Key: []byte("c"), Digest: filled(32, 1), Kids: []api.Tree{none, none}}
	deep := none
	for i := range 65 {
		deep = node(none, string([]byte{byte(100 - i)}), "", deep)
	}
	for what, x := range map[string]api.Tree{
		"a cut":                            cut,
		"a dark node":                      dark,
		"a cut aside":                      node(leaf("a"), "b", "", cut),
		"a dark node aside":                node(leaf("a"), "b", "", dark),
		"a cut without a Digest":           {Kind: api.TreeCut},
		"a kind -1":                        {Kind: -1},
		"a kind 4":                         {Kind: 4, Key: []byte("a"), Kids: []api.Tree{none, none}},
		"a none with a Key":                {Key: []byte("a")},
		"a none with a Value":              {Value: []byte("a")},
		"a none with Kids":                 {Kids: []api.Tree{none, none}},
		"a node without Kids":              {Kind: api.TreeNode, Key: []byte("a")},
		"a node with a Kid":                {Kind: api.TreeNode, Key: []byte("a"), Kids: []api.Tree{none}},
		"a node with three Kids":           {Kind: api.TreeNode, Key: []byte("a"), Kids: []api.Tree{none, none, none}},
		"a node with a Digest":             {Kind: api.TreeNode, Digest: filled(32, 1), Kids: []api.Tree{none, none}},
		"a key of 81 bytes":                node(none, string(filled(81, 1)), "", none),
		"a value of 1025 bytes":            node(none, "a", string(filled(1025, 1)), none),
		"keys that fall":                   node(leaf("b"), "a", "", none),
		"a key twice":                      node(leaf("a"), "a", "", none),
		"the empty key twice":              node(leaf(""), "", "", none),
		"a key that does not fit the root": node(node(none, "a", "", leaf("d")), "c", "", leaf("e")),
		"a way to the right":               node(none, "a", "", node(none, "b", "", leaf("c"))),
		"a way to the left":                node(node(leaf("a"), "b", "", none), "c", "", none),
		"a way aside":                      node(leaf("a"), "b", "", node(node(leaf("c"), "d", "", node(none, "e", "", leaf("f"))), "g", "", none)),
		"a tree of depth 65":               deep,
		"a tree that contains itself":      endless(),
	} {
		for _, s := range spansOf([]string{"", "a", "a\x00", "b", "\xff"}) {
			mustRefuse(t, what, x, s)
		}
	}
}

// P6.4

func roomyBytes(b []byte) []byte {
	return slices.Concat(b, bytes.Repeat([]byte{0xee}, 100))[:len(b)]
}

func roomySpan(s api.Span) api.Span {
	s.From, s.To = roomyBytes(s.From), roomyBytes(s.To)
	return s
}

// roomy returns a tree whose byte strings and Kids lie within longer arrays: a
// function that appends to one of them would write into what stands behind it.
func roomy(t api.Tree) api.Tree {
	t.Key, t.Value, t.Digest = roomyBytes(t.Key), roomyBytes(t.Value), roomyBytes(t.Digest)
	kids := append(slices.Clone(t.Kids), leaf("y"), leaf("z"))
	t.Kids = kids[:len(t.Kids)]
	for i := range t.Kids {
		t.Kids[i] = roomy(t.Kids[i])
	}
	return t
}

// whole is all that the bytes' memory holds, what stands behind them among it.
func whole(b []byte) string { return string(b[:cap(b)]) }

func wholeSpan(s api.Span) string { return whole(s.From) + "|" + whole(s.To) }

func wholeTree(t api.Tree) string {
	out := fmt.Sprintf("%d %x %x %x %d(", t.Kind, whole(t.Key), whole(t.Value), whole(t.Digest), len(t.Kids))
	for _, kid := range t.Kids[:cap(t.Kids)] {
		out += wholeTree(kid) + ","
	}
	return out + ")"
}

// flip overwrites all of the bytes' memory, what stands behind them among it.
func flip(b []byte) {
	b = b[:cap(b)]
	for i := range b {
		b[i] = ^b[i]
	}
}

// scrub overwrites all of a tree's memory.
func scrub(t api.Tree) {
	for _, b := range [][]byte{t.Key, t.Value, t.Digest} {
		flip(b)
	}
	for i := range t.Kids {
		scrub(t.Kids[i])
		t.Kids[i] = leaf("scrubbed")
	}
}

func clonePairs(pairs []api.Pair) []api.Pair {
	out := make([]api.Pair, len(pairs))
	for i, p := range pairs {
		out[i] = api.Pair{Key: bytes.Clone(p.Key), Value: bytes.Clone(p.Value)}
	}
	return out
}

func TestArgumentsStay(t *testing.T) {
	trees := []api.Tree{none, leaf("a"), put(t, oddKeys()...), node(leaf("b"), "a", "", none), {Kind: api.TreeCut, Digest: filled(32, 1)}}
	ends := []string{"", "\x00", "a", "a\x00", "a\xff", "b", string(filled(81, 1))}
	for _, plain := range spansOf(ends) {
		s := roomySpan(plain)
		before := wholeSpan(s)
		for _, low := range ends {
			for _, high := range ends {
				l, h := roomyBytes([]byte(low)), roomyBytes([]byte(high))
				beforeLow, beforeHigh := whole(l), whole(h)
				for i := range 4 {
					scan.Empty(s, l, h, i&1 != 0, i&2 != 0)
				}
				if whole(l) != beforeLow || whole(h) != beforeHigh {
					t.Errorf("Empty %s modified %q or %q", spell(s), low, high)
				}
			}
			key := roomyBytes([]byte(low))
			beforeKey := whole(key)
			scan.In(s, key)
			scan.Point(key)
			if whole(key) != beforeKey {
				t.Errorf("In or Point modified %q", low)
			}
		}
		for _, x := range trees {
			x = roomy(x)
			beforeTree := wholeTree(x)
			scan.Range(x, s)
			if wholeTree(x) != beforeTree {
				t.Errorf("Range %s modified the tree", spell(s))
			}
		}
		if wholeSpan(s) != before {
			t.Errorf("the range %s was modified", spell(s))
		}
	}
}

// TestPointIsFresh: it shares no memory with its key, and its two ends share
// none with each other.
func TestPointIsFresh(t *testing.T) {
	for _, k := range append(oddKeys(), string(filled(1000, 1))) {
		key := roomyBytes([]byte(k))
		first, second := scan.Point(key), scan.Point(key)
		flip(key)
		changed := whole(key)
		if string(first.From) != k || string(first.To) != k+"\x00" {
			t.Errorf("what was done to %q shows in its point range", k)
		}
		flip(first.From)
		if string(first.To) != k+"\x00" {
			t.Errorf("the ends of the point range of %q share memory", k)
		}
		flip(first.To)
		if string(second.From) != k || string(second.To) != k+"\x00" {
			t.Errorf("two point ranges of %q share memory", k)
		}
		if whole(key) != changed {
			t.Errorf("what was done to the point range of %q shows in it", k)
		}
	}
}

// rangeSpans hold no pair, one, some and all of those of oddKeys.
func rangeSpans() []api.Span {
	return []api.Span{span("b", "b"), span("a", "a\x00"), span("", "\x00"), span("a", "b"), span("", "\xff"), open("", ""), open("a\xff", "")}
}

func TestRangeIsFresh(t *testing.T) {
	for _, plain := range rangeSpans() {
		x, s := roomy(put(t, oddKeys()...)), roomySpan(plain)
		got := mustRange(t, x, s)
		kept := clonePairs(got)
		for _, p := range got {
			flip(p.Key)
			flip(p.Value)
		}
		clear(got[:cap(got)])
		if again := mustRange(t, x, s); !samePairs(again, kept) {
			t.Errorf("Range %s: what was done to the result shows in the tree or the range", spell(plain))
		}
	}
}

func TestRangeOutlivesItsArguments(t *testing.T) {
	for _, plain := range rangeSpans() {
		x, s := roomy(put(t, oddKeys()...)), roomySpan(plain)
		got := mustRange(t, x, s)
		kept := clonePairs(got)
		scrub(x)
		flip(s.From)
		flip(s.To)
		if !samePairs(got, kept) {
			t.Errorf("Range %s: what was done to the tree or the range shows in the result", spell(plain))
		}
	}
}

// TestPairsAreApart: no two byte strings of one result share memory, nor do
// those of two results.
func TestPairsAreApart(t *testing.T) {
	x := roomy(put(t, oddKeys()...))
	first, second := mustRange(t, x, api.Span{Open: true}), mustRange(t, x, api.Span{Open: true})
	kept := clonePairs(first)
	for i := range first {
		for _, field := range []*[]byte{&first[i].Key, &first[i].Value} {
			flip(*field)
			old := *field
			*field = nil
			want := clonePairs(kept)
			if field == &first[i].Key {
				want[i].Key = nil
			} else {
				want[i].Value = nil
			}
			if !samePairs(first, want) || !samePairs(second, kept) {
				t.Errorf("the pair %d of %d shares memory with another", i, len(first))
			}
			flip(old)
			*field = old
		}
	}
}

// TestNothingIsRetained changes arguments after they were seen.
func TestNothingIsRetained(t *testing.T) {
	x, s := put(t, "b", "d", "f"), span("b", "e")
	low, high := []byte("b"), []byte("d")
	mustShow(t, x, s, "bd")
	if scan.Empty(s, low, high, true, true) {
		t.Error("there is a key between b and d")
	}
	s.From[0] = 'c'
	mustShow(t, x, s, "d")
	s.To[0] = 'g'
	mustShow(t, x, s, "df")
	high[0] = 'b'
	if !scan.Empty(s, low, high, true, true) {
		t.Error("there is no key between b and b")
	}
	x.Kids[1].Key[0] = 'e'
	x.Kids[1].Value[1] = 'e'
	mustShow(t, x, s, "de")
	x.Kids[1].Key[0] = 'd'
	mustRefuse(t, "a key twice", x, s)
	x.Kids[1] = none
	mustShow(t, x, s, "d")
}

// P6.5

// mustAgreeWithGet holds the range of a key's point against avl.Get.
func mustAgreeWithGet(t testing.TB, x api.Tree, key string) {
	t.Helper()
	got, err := scan.Range(x, scan.Point([]byte(key)))
	value, is, getErr := avl.Get(x, []byte(key))
	if err != nil || getErr != nil {
		t.Fatalf("the point %q: %v, Get: %v", key, err, getErr)
	}
	if (len(got) == 1) != is || len(got) > 1 {
		t.Fatalf("the point %q has %d pairs, Get: %v", key, len(got), is)
	}
	if is && (string(got[0].Key) != key || !bytes.Equal(got[0].Value, value)) {
		t.Errorf("the point %q has %q, Get: %q", key, got[0], value)
	}
}

func TestPointsAgreeWithGet(t *testing.T) {
	for n := range 9 {
		for _, x := range shapes(letters[:n]) {
			if !avl.Is(x) {
				continue
			}
			mustAgreeWithGet(t, x, "")
			for c := byte('a'); c <= 'z'; c++ {
				mustAgreeWithGet(t, x, string(c))
				mustAgreeWithGet(t, x, string(c)+"\x00")
			}
		}
	}
	keys := oddKeys()
	for i := range keys {
		some := put(t, slices.Concat(keys[:i/2], keys[i:])...)
		for _, key := range append(oddKeys(), "\x00\x00\x00", "a\x00\x00", "a\xff\x00", "\xff\xff\xff", "b") {
			mustAgreeWithGet(t, some, key)
		}
	}
}

// TestPointOfAKeyThatNoTreeHas: where avl.Get does not take the key, there is
// no such pair either.
func TestPointOfAKeyThatNoTreeHas(t *testing.T) {
	x := put(t, oddKeys()...)
	for _, key := range []string{strings.Repeat("\x00", 81), strings.Repeat("\xff", 81), string(filled(2000, 1))} {
		mustShow(t, x, scan.Point([]byte(key)), "")
	}
}

// mustJoin holds two adjacent ranges against the one that both make up.
func mustJoin(t testing.TB, x api.Tree, from, at, to string, isOpen bool) {
	t.Helper()
	first := mustRange(t, x, span(from, at))
	second := mustRange(t, x, api.Span{From: []byte(at), To: []byte(to), Open: isOpen})
	union := mustRange(t, x, api.Span{From: []byte(from), To: []byte(to), Open: isOpen})
	if !samePairs(slices.Concat(first, second), union) {
		t.Errorf("from %q to %q and from there to %q (open: %v): %q and %q, together %q", from, at, to, isOpen, first, second, union)
	}
}

func TestAdjacentRanges(t *testing.T) {
	keys := oddKeys()
	slices.SortFunc(keys, strings.Compare)
	full := put(t, keys...)
	var half []string
	for i := 0; i < len(keys); i += 2 {
		half = append(half, keys[i])
	}
	for _, x := range []api.Tree{none, leaf("a"), put(t, half...), full} {
		for i, from := range keys {
			for j, at := range keys[i:] {
				for _, to := range keys[i+j:] {
					mustJoin(t, x, from, at, to, false)
				}
				mustJoin(t, x, from, at, "", true)
				mustJoin(t, x, from, at, from, true)
			}
		}
	}
}

// All calls, on anything.

// treeOf makes a tree of any bytes, mostly one that is balanced.
func treeOf(b []byte) api.Tree {
	x := none
	for len(b) >= 3 {
		n := min(int(b[0]%4), len(b)-2)
		x, _ = avl.Put(x, b[1:1+n], b[1+n:2+n])
		b = b[2+n:]
	}
	at := x
	for _, c := range b {
		if len(at.Kids) != 2 {
			break
		}
		switch kid := &at.Kids[c%2]; c / 2 % 16 {
		case 0:
			kid.Kind = int(c / 32)
		case 1:
			kid.Key = append(kid.Key, c)
		case 2:
			*kid = none
		case 3:
			kid.Kids = append(kid.Kids, none)
		}
		at = at.Kids[c%2]
	}
	return x
}

// mustAgree holds all functions against the document's words.
func mustAgree(t testing.TB, x api.Tree, s api.Span, low, high bound) {
	t.Helper()
	for _, key := range []string{low.key, high.key, string(s.From), string(s.To)} {
		if got := scan.In(s, []byte(key)); got != spelledIn(s, key) {
			t.Errorf("In %s of %q = %v", spell(s), key, got)
		}
		if p := scan.Point([]byte(key)); string(p.From) != key || string(p.To) != key+"\x00" || p.Open {
			t.Errorf("Point of %q = %s", key, spell(p))
		}
	}
	// A key that is shown rules out that there is none.
	keys := []string{"", low.key + "\x00", string(s.From), string(s.From) + "\x00"}
	for _, p := range pairsOf(x) {
		keys = append(keys, string(p.Key))
	}
	found := slices.ContainsFunc(keys, func(key string) bool {
		return spelledIn(s, key) && (!low.has || less(low.key, key)) && (!high.has || less(key, high.key))
	})
	mustBeEmpty(t, s, low, high, !found)
	if avl.Is(x) {
		mustRange(t, x, s)
	} else {
		mustRefuse(t, "a tree that is not balanced", x, s)
	}
}

func TestAllCallsOnAnything(t *testing.T) {
	r := rand.New(rand.NewSource(1))
	some := func(most int) string {
		out := make([]byte, r.Intn(most+1))
		for i := range out {
			out[i] = "\x00\x01a\xfe\xff"[r.Intn(5)]
		}
		return string(out)
	}
	for range 20000 {
		x := treeOf([]byte(some(40)))
		s := api.Span{From: []byte(some(4)), To: []byte(some(4)), Open: r.Intn(3) == 0}
		mustAgree(t, x, s, bound{some(4), r.Intn(3) > 0}, bound{some(4), r.Intn(3) > 0})
	}
}

func FuzzAllCalls(f *testing.F) {
	f.Add([]byte("1a1b2ab3"), []byte("a"), []byte("b"), false, []byte("a"), []byte("a\x00"), true, true)
	f.Add([]byte{}, []byte{}, []byte{}, true, []byte{}, []byte{}, false, false)
	f.Add([]byte("0\x001\xff1\x80"), []byte("\xff"), []byte("\x00"), false, []byte("\xff"), []byte("\xff\x00\x00"), true, false)
	f.Fuzz(func(t *testing.T, b, from, to []byte, isOpen bool, low, high []byte, hasLow, hasHigh bool) {
		s := api.Span{From: from, To: to, Open: isOpen}
		// Each insertion looks at the whole tree: a long input would only take long.
		mustAgree(t, treeOf(b[:min(len(b), 300)]), s, bound{string(low), hasLow}, bound{string(high), hasHigh})
	})
}
