package digest_test

import (
	"bytes"
	"crypto/sha256"
	"encoding/hex"
	"fmt"
	"math"
	"slices"
	"testing"

	"heartwood/api"
	"heartwood/digest"
)

// badWidths are those outside of 1 to 32, the ones next to it among them.
var badWidths = []int{0, -1, -2, -32, -33, math.MinInt, 33, 34, 64, 256 + 1, 1<<16 + 1, math.MaxInt}

// filled returns n bytes without a short period, so that a mixed-up order shows.
func filled(n int, seed uint32) []byte {
	out := make([]byte, n)
	x := seed*2654435761 + 1
	for i := range out {
		x = x*1664525 + 1013904223
		out[i] = byte(x >> 24)
	}
	return out
}

func unhex(t testing.TB, s string) []byte {
	t.Helper()
	b, err := hex.DecodeString(s)
	if err != nil {
		t.Fatal(err)
	}
	return b
}

// spelled is coder.Bytes of b by the document's words, for the lengths that the
// tests use.
func spelled(b []byte) []byte {
	n := len(b)
	switch {
	case n <= 247:
		return slices.Concat([]byte{byte(n)}, b)
	case n <= 255:
		return slices.Concat([]byte{248, byte(n)}, b)
	case n <= 65535:
		return slices.Concat([]byte{249, byte(n >> 8), byte(n)}, b)
	}
	return slices.Concat([]byte{250, byte(n >> 16), byte(n >> 8), byte(n)}, b)
}

func mustBe(t testing.TB, what string, got []byte, err error, want []byte) {
	t.Helper()
	if err != nil || !bytes.Equal(got, want) {
		t.Errorf("%s = %x, %v, want %x", what, got, err, want)
	}
}

// mustRefuse wants ErrArg itself, a plain Code, and no bytes beside it.
func mustRefuse(t testing.TB, what string, got []byte, err error) {
	t.Helper()
	if err != error(api.ErrArg) || len(got) != 0 {
		t.Errorf("%s = %x, %v, want ErrArg alone", what, got, err)
	}
}

// P3.1

func TestOfIsThePrefixOfTheSum(t *testing.T) {
	for _, n := range []int{0, 1, 2, 31, 32, 33, 55, 56, 63, 64, 65, 119, 120, 128, 1000, 70000} {
		b := filled(n, uint32(n))
		sum := sha256.Sum256(b)
		for w := 1; w <= 32; w++ {
			got, err := digest.Of(w, b)
			mustBe(t, fmt.Sprintf("Of(%d, %d bytes)", w, n), got, err, sum[:w])
		}
	}
}

func TestOfWithKnownDigests(t *testing.T) {
	abc := "ba7816bf8f01cfea414140de5dae2223b00361a396177a9cb410ff61f20015ad"
	for _, w := range []int{1, 2, 16, 31, 32} {
		got, err := digest.Of(w, []byte("abc"))
		mustBe(t, fmt.Sprintf("Of(%d, abc)", w), got, err, unhex(t, abc[:2*w]))
	}
	got, err := digest.Of(4, nil)
	mustBe(t, "Of(4, nil)", got, err, unhex(t, "e3b0c442"))
	got, err = digest.Of(1, digest.None())
	mustBe(t, "Of(1, None())", got, err, []byte{8})
}

func TestOfRefusesOtherWidths(t *testing.T) {
	for _, w := range badWidths {
		for _, b := range [][]byte{nil, {}, {3}, filled(32, 1), filled(100, 2)} {
			got, err := digest.Of(w, b)
			mustRefuse(t, fmt.Sprintf("Of(%d, %x)", w, b), got, err)
		}
	}
}

// P3.2

func TestExamples(t *testing.T) {
	if got := digest.Value(unhex(t, "61")); !bytes.Equal(got, unhex(t, "0061")) {
		t.Errorf("Value(61) = %x", got)
	}
	if got := digest.None(); !bytes.Equal(got, unhex(t, "03")) {
		t.Errorf("None() = %x", got)
	}
	got, err := digest.Pair(1, unhex(t, "61"), unhex(t, "ff"))
	mustBe(t, "Pair(1, 61, ff)", got, err, unhex(t, "010161ff"))
	got, err = digest.Node(1, unhex(t, "aa"), unhex(t, "bb"), unhex(t, "cc"))
	mustBe(t, "Node(1, aa, bb, cc)", got, err, unhex(t, "02aabbcc"))
}

func TestValueOfAnyLength(t *testing.T) {
	for _, n := range []int{0, 1, 2, 31, 32, 33, 247, 248, 1023, 1024, 1025, 70000} {
		v := filled(n, uint32(n)+7)
		if got := digest.Value(v); !bytes.Equal(got, slices.Concat([]byte{0}, v)) {
			t.Errorf("Value of %d bytes = %x", n, got)
		}
	}
	if got := digest.Value(nil); !bytes.Equal(got, []byte{0}) {
		t.Errorf("Value(nil) = %x", got)
	}
}

func TestPairOfEveryWidthAndKey(t *testing.T) {
	for w := 1; w <= 32; w++ {
		for _, n := range []int{0, 1, 32, 79, 80, 81, 246, 247, 248, 255, 256, 65535, 65536} {
			key, value := filled(n, uint32(n)), filled(w, uint32(w)+99)
			got, err := digest.Pair(w, key, value)
			mustBe(t, fmt.Sprintf("Pair(%d, %d bytes)", w, n), got, err, slices.Concat([]byte{1}, spelled(key), value))
		}
	}
	got, err := digest.Pair(2, nil, []byte{5, 6})
	mustBe(t, "Pair(2, nil, 0506)", got, err, []byte{1, 0, 5, 6})
}

func TestPairRefuses(t *testing.T) {
	for _, w := range badWidths {
		// A value of just w bytes, where there can be one, is no excuse for w.
		for _, n := range []int{0, 1, 32, min(max(w, 0), 70000)} {
			got, err := digest.Pair(w, []byte("a"), filled(n, 3))
			mustRefuse(t, fmt.Sprintf("Pair(%d, a, %d bytes)", w, n), got, err)
		}
	}
	for w := 1; w <= 32; w++ {
		for n := 0; n <= 66; n++ {
			if n != w {
				got, err := digest.Pair(w, []byte("a"), filled(n, 4))
				mustRefuse(t, fmt.Sprintf("Pair(%d, a, %d bytes)", w, n), got, err)
			}
		}
		got, err := digest.Pair(w, nil, nil)
		mustRefuse(t, fmt.Sprintf("Pair(%d, nil, nil)", w), got, err)
	}
}

func TestNodeOfEveryWidth(t *testing.T) {
	for w := 1; w <= 32; w++ {
		l, p, r := filled(w, 11), filled(w, 12), filled(w, 13)
		got, err := digest.Node(w, l, p, r)
		mustBe(t, fmt.Sprintf("Node(%d, ...)", w), got, err, slices.Concat([]byte{2}, l, p, r))
		got, err = digest.Node(w, l, l, l)
		mustBe(t, fmt.Sprintf("Node(%d, one digest thrice)", w), got, err, slices.Concat([]byte{2}, l, l, l))
	}
}

func TestNodeRefusesOtherWidths(t *testing.T) {
	for _, w := range badWidths {
		for _, n := range []int{0, 1, 32, min(max(w, 0), 70000)} {
			d := filled(n, 5)
			got, err := digest.Node(w, d, d, d)
			mustRefuse(t, fmt.Sprintf("Node(%d, digests of %d)", w, n), got, err)
		}
	}
}

func TestNodeRefusesOtherLengths(t *testing.T) {
	for w := 1; w <= 32; w++ {
		d := filled(w, 6)
		for n := 0; n <= 66; n++ {
			if n == w {
				continue
			}
			bad := filled(n, 7)
			for i, in := range [][3][]byte{{bad, d, d}, {d, bad, d}, {d, d, bad}, {bad, bad, d}, {bad, d, bad}, {d, bad, bad}, {bad, bad, bad}} {
				got, err := digest.Node(w, in[0], in[1], in[2])
				mustRefuse(t, fmt.Sprintf("Node(%d), case %d of %d bytes", w, i, n), got, err)
			}
		}
	}
	// The three together are as long as three of the width.
	got, err := digest.Node(2, []byte{1}, []byte{2, 3}, []byte{4, 5, 6})
	mustRefuse(t, "Node(2, 1, 2 and 3 bytes)", got, err)
	got, err = digest.Node(2, []byte{1, 2, 3}, []byte{4, 5}, []byte{6})
	mustRefuse(t, "Node(2, 3, 2 and 1 bytes)", got, err)
	got, err = digest.Node(2, nil, nil, nil)
	mustRefuse(t, "Node(2, nil, nil, nil)", got, err)
}

// P3.3

// roomy returns b within a longer array, and that array: a function that
// appends to its argument would write into what stands behind b.
func roomy(b []byte) (part, whole []byte) {
	whole = append(slices.Concat(b, bytes.Repeat([]byte{0xee}, 100)), 0xee)
	return whole[:len(b)], whole
}

// scrub overwrites all of the array in which b lies.
func scrub(b []byte) {
	b = b[:cap(b)]
	for i := range b {
		b[i] = ^b[i]
	}
}

// forms are the functions as functions of a list of byte strings.
var forms = []struct {
	name string
	args int
	call func(w int, in [][]byte) []byte
}{
	{"Of", 1, func(w int, in [][]byte) []byte { out, _ := digest.Of(w, in[0]); return out }},
	{"Value", 1, func(w int, in [][]byte) []byte { return digest.Value(in[0]) }},
	{"Pair", 2, func(w int, in [][]byte) []byte { out, _ := digest.Pair(w, in[0], in[1]); return out }},
	{"Node", 3, func(w int, in [][]byte) []byte { out, _ := digest.Node(w, in[0], in[1], in[2]); return out }},
	{"None", 0, func(w int, in [][]byte) []byte { return digest.None() }},
}

func TestMemory(t *testing.T) {
	for _, f := range forms {
		for _, w := range []int{1, 2, 7, 31, 32} {
			var in, whole [][]byte
			for i := range f.args {
				part, all := roomy(filled(w, uint32(20+i)))
				in, whole = append(in, part), append(whole, all)
			}
			before := make([][]byte, len(whole))
			for i, b := range whole {
				before[i] = bytes.Clone(b)
			}
			got := f.call(w, in)
			for i := range whole {
				if !bytes.Equal(whole[i], before[i]) {
					t.Errorf("%s of width %d modified its argument %d", f.name, w, i)
				}
			}
			kept := bytes.Clone(got)
			for i := range whole {
				scrub(whole[i])
			}
			if !bytes.Equal(got, kept) {
				t.Errorf("%s of width %d shares memory with an argument", f.name, w)
			}
			for i := range whole {
				copy(whole[i], before[i])
			}
			scrub(got)
			for i := range whole {
				if !bytes.Equal(whole[i], before[i]) {
					t.Errorf("%s of width %d hands out its argument %d", f.name, w, i)
				}
			}
			if again := f.call(w, in); !bytes.Equal(again, kept) {
				t.Errorf("%s of width %d = %x after its first result was changed, want %x", f.name, w, again, kept)
			}
		}
	}
}

func TestRefusedArgumentsStay(t *testing.T) {
	a, wholeA := roomy([]byte{1, 2})
	b, wholeB := roomy([]byte{3, 4, 5})
	beforeA, beforeB := bytes.Clone(wholeA), bytes.Clone(wholeB)
	for _, w := range []int{0, 2, 33} {
		_, err1 := digest.Pair(w, a, b)
		_, err2 := digest.Node(w, a, a, b)
		if err1 == nil || err2 == nil {
			t.Errorf("width %d: no error", w)
		}
	}
	if !bytes.Equal(wholeA, beforeA) || !bytes.Equal(wholeB, beforeB) {
		t.Error("a refused argument was modified")
	}
}

func TestTheSameDigestMayBeGivenThrice(t *testing.T) {
	d, whole := roomy([]byte{9, 8})
	got, err := digest.Node(2, d, d, d)
	mustBe(t, "Node(2, d, d, d)", got, err, []byte{2, 9, 8, 9, 8, 9, 8})
	got, err = digest.Pair(2, d, d)
	mustBe(t, "Pair(2, d, d)", got, err, []byte{1, 2, 9, 8, 9, 8})
	if !bytes.Equal(whole[:2], []byte{9, 8}) || whole[2] != 0xee {
		t.Errorf("the argument's array is now %x", whole)
	}
}

// P3.4

// words returns all byte strings of at most n of the given letters.
func words(letters []byte, n int) [][]byte {
	out := [][]byte{{}}
	for from := 0; n > 0; n-- {
		end := len(out)
		for _, b := range out[from:end] {
			for _, c := range letters {
				out = append(out, slices.Concat(b, []byte{c}))
			}
		}
		from = end
	}
	return out
}

func ofLength(list [][]byte, n int) [][]byte {
	return slices.DeleteFunc(slices.Clone(list), func(b []byte) bool { return len(b) != n })
}

// TestDifferentObjectsHaveDifferentPreimages goes through small objects made of
// the letters that could be taken for a kind or a length.
func TestDifferentObjectsHaveDifferentPreimages(t *testing.T) {
	all := words([]byte{0, 1, 2, 3}, 4)
	for w := 1; w <= 2; w++ {
		seen := map[string]string{}
		add := func(preimage []byte, object string) {
			if other, ok := seen[string(preimage)]; ok {
				t.Fatalf("width %d: %s and %s have the preimage %x", w, object, other, preimage)
			}
			seen[string(preimage)] = object
		}
		add(digest.None(), "the empty tree")
		for _, v := range words([]byte{0, 1, 2, 3}, 6) {
			add(digest.Value(v), fmt.Sprintf("the value %x", v))
		}
		digests := ofLength(all, w)
		for _, d := range digests {
			for _, key := range all {
				b, err := digest.Pair(w, key, d)
				if err != nil {
					t.Fatal(err)
				}
				add(b, fmt.Sprintf("the pair %x %x", key, d))
			}
			for _, p := range digests {
				for _, r := range digests {
					b, err := digest.Node(w, d, p, r)
					if err != nil {
						t.Fatal(err)
					}
					add(b, fmt.Sprintf("the node %x %x %x", d, p, r))
				}
			}
		}
	}
}

func TestKindsAreToldByTheFirstByte(t *testing.T) {
	for w := 1; w <= 32; w++ {
		for seed := range uint32(20) {
			d := filled(w, seed)
			pair, _ := digest.Pair(w, d, d)
			node, _ := digest.Node(w, d, d, d)
			for kind, b := range [][]byte{digest.Value(d), pair, node, digest.None()} {
				if len(b) == 0 || int(b[0]) != kind {
					t.Errorf("a preimage of kind %d begins %x", kind, b)
				}
			}
		}
	}
}

// TestLongKeysStayApart compares keys on both sides of each border of a
// length's encoding: what a shorter key leaves out stands at the digest's place.
func TestLongKeysStayApart(t *testing.T) {
	for _, w := range []int{1, 16, 32} {
		seen := map[string]int{}
		for _, n := range []int{0, 1, 2, 79, 80, 81, 246, 247, 248, 249, 254, 255, 256, 257, 300} {
			for _, letter := range []byte{0, 247, 248, 249} {
				if n == 0 && letter != 0 {
					continue
				}
				line := bytes.Repeat([]byte{letter}, n+w)
				b, err := digest.Pair(w, line[:n], line[n:])
				if err != nil {
					t.Fatal(err)
				}
				if other, ok := seen[string(b)]; ok {
					t.Errorf("width %d: keys of %d and %d bytes have one preimage", w, n, other)
				}
				seen[string(b)] = n
			}
		}
	}
}

func FuzzAllCalls(f *testing.F) {
	f.Add(1, []byte("a"), []byte{1}, []byte{2}, []byte{3})
	f.Add(2, []byte{}, []byte{1, 2}, []byte{3, 4}, []byte{5, 6})
	f.Add(0, []byte{}, []byte{}, []byte{}, []byte{})
	f.Add(33, filled(33, 1), filled(33, 2), filled(33, 3), filled(33, 4))
	f.Add(32, filled(300, 1), filled(32, 2), filled(32, 3), filled(32, 4))
	f.Fuzz(func(t *testing.T, w int, key, a, b, c []byte) {
		good := 1 <= w && w <= 32
		got, err := digest.Of(w, key)
		if good {
			sum := sha256.Sum256(key)
			mustBe(t, "Of", got, err, sum[:w])
		} else {
			mustRefuse(t, "Of", got, err)
		}
		if got := digest.Value(key); !bytes.Equal(got, slices.Concat([]byte{0}, key)) {
			t.Errorf("Value = %x", got)
		}
		got, err = digest.Pair(w, key, a)
		if good && len(a) == w {
			mustBe(t, "Pair", got, err, slices.Concat([]byte{1}, spelled(key), a))
		} else {
			mustRefuse(t, "Pair", got, err)
		}
		got, err = digest.Node(w, a, b, c)
		if good && len(a) == w && len(b) == w && len(c) == w {
			mustBe(t, "Node", got, err, slices.Concat([]byte{2}, a, b, c))
		} else {
			mustRefuse(t, "Node", got, err)
		}
	})
}
