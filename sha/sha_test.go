package sha_test

import (
	"bytes"
	"crypto/sha256"
	"encoding"
	"encoding/binary"
	"encoding/hex"
	"math"
	"math/big"
	"slices"
	"testing"

	"heartwood/api"
	"heartwood/sha"
)

// filled returns n bytes without a short period, so that a mixed-up order shows.
func filled(n int, seed uint32) []byte {
	out := make([]byte, n)
	x := seed*2654435761 + 1
	for i := range out {
		x = x*1664525 + 1013904223
		out[i] = byte(x >> 24)
	}
	return out
}

func stateOf(seed uint32) [8]uint32 {
	var v [8]uint32
	for i := range v {
		v[i] = binary.BigEndian.Uint32(filled(32, seed)[4*i:])
	}
	return v
}

func turn(x uint32, n int) uint32 { return x>>n | x<<(32-n) }

func primes(n int) []int64 {
	var out []int64
	for p := int64(2); len(out) < n; p++ {
		if !slices.ContainsFunc(out, func(q int64) bool { return p%q == 0 }) {
			out = append(out, p)
		}
	}
	return out
}

// fraction returns the first 32 bits of the fractional part of p's root of the
// given power: the largest x with x^power <= p * 2^(32 power), without what is
// above 32 bits.
func fraction(p int64, power int) uint32 {
	want := new(big.Int).Lsh(big.NewInt(p), uint(32*power))
	low, high := big.NewInt(0), new(big.Int).Lsh(big.NewInt(p), 32)
	for low.Cmp(high) < 0 {
		mid := new(big.Int).Add(low, high)
		mid.Add(mid, big.NewInt(1)).Rsh(mid, 1)
		if new(big.Int).Exp(mid, big.NewInt(int64(power)), nil).Cmp(want) <= 0 {
			low = mid
		} else {
			high = mid.Sub(mid, big.NewInt(1))
		}
	}
	return uint32(low.Uint64())
}

// libraryStep has the library's SHA-256 do a step from any state, by its
// marshalled form: a mark, the state, a block's buffer and a length.
func libraryStep(t *testing.T, v [8]uint32, block []byte) [8]uint32 {
	t.Helper()
	h := sha256.New()
	form := []byte("sha\x03")
	for _, x := range v {
		form = binary.BigEndian.AppendUint32(form, x)
	}
	form = append(form, make([]byte, 64+8)...)
	if err := h.(encoding.BinaryUnmarshaler).UnmarshalBinary(form); err != nil {
		t.Fatal(err)
	}
	h.Write(block)
	form, err := h.(encoding.BinaryMarshaler).MarshalBinary()
	if err != nil {
		t.Fatal(err)
	}
	return words8(form[4:])
}

func words8(b []byte) [8]uint32 {
	var v [8]uint32
	for i := range v {
		v[i] = binary.BigEndian.Uint32(b[4*i:])
	}
	return v
}

func bytes8(v [8]uint32) []byte {
	var out []byte
	for _, x := range v {
		out = binary.BigEndian.AppendUint32(out, x)
	}
	return out
}

// mustBeArg asks for the plain Code: an error that wraps it is not enough.
func mustBeArg(t *testing.T, what string, n int, err error) {
	t.Helper()
	if err != error(api.ErrArg) {
		t.Errorf("%s of %d: error %v, not the plain ErrArg", what, n, err)
	}
}

// badLengths are lengths that no block has.
var badLengths = []int{0, 1, 55, 56, 63, 65, 127, 128, 4096}

func TestTailIsAsDefined(t *testing.T) { // P1.1
	sizes := []int{1 << 20, 1<<29 - 1, 1 << 29, 1<<32 + 57, 1<<50 - 1, 1 << 50}
	for n := range 400 {
		sizes = append(sizes, n)
	}
	for _, n := range sizes {
		want := []byte{0x80}
		for (n+len(want))%64 != 56 {
			want = append(want, 0)
		}
		want = binary.BigEndian.AppendUint64(want, 8*uint64(n))
		got, err := sha.Tail(n)
		if err != nil || !bytes.Equal(got, want) {
			t.Errorf("Tail(%d) = %x, %v; want %x", n, got, err, want)
		}
	}
}

func TestTailLengths(t *testing.T) { // P1.1
	for n, want := range map[int]int{0: 64, 1: 63, 54: 10, 55: 9, 56: 72, 63: 65, 64: 64, 119: 9, 120: 72, 1 << 50: 64} {
		if b, err := sha.Tail(n); len(b) != want || err != nil {
			t.Errorf("Tail(%d) has %d bytes, %v; want %d", n, len(b), err, want)
		}
	}
}

func TestTailRefuses(t *testing.T) { // P1.1
	for _, n := range []int{-1, -2, -64, math.MinInt, 1<<50 + 1, 1 << 60, 1 << 61, math.MaxInt} {
		b, err := sha.Tail(n)
		mustBeArg(t, "Tail", n, err)
		if len(b) != 0 {
			t.Errorf("Tail(%d): %x beside an error", n, b)
		}
	}
}

func TestWordsAreTheSchedule(t *testing.T) { // P1.1
	blocks := [][]byte{make([]byte, 64), bytes.Repeat([]byte{0xff}, 64)}
	for seed := range uint32(50) {
		blocks = append(blocks, filled(64, seed))
	}
	for _, block := range blocks {
		w, err := sha.Words(block)
		if err != nil || len(w) != 64 {
			t.Fatalf("Words(%x): %d words, %v", block, len(w), err)
		}
		for i, x := range w {
			want := uint32(0)
			if i < 16 {
				want = binary.BigEndian.Uint32(block[4*i:])
			} else {
				p, q := w[i-15], w[i-2]
				want = w[i-16] + (turn(p, 7) ^ turn(p, 18) ^ p>>3) + w[i-7] + (turn(q, 17) ^ turn(q, 19) ^ q>>10)
			}
			if x != want {
				t.Fatalf("Words(%x): word %d is %08x, want %08x", block, i, x, want)
			}
		}
	}
}

func TestWordsRefuse(t *testing.T) { // P1.1
	for _, n := range badLengths {
		w, err := sha.Words(make([]byte, n, n+64))
		mustBeArg(t, "Words", n, err)
		if len(w) != 0 {
			t.Errorf("Words of %d bytes: %d words beside an error", n, len(w))
		}
	}
	if w, err := sha.Words(nil); err != error(api.ErrArg) || len(w) != 0 {
		t.Error("Words of nil:", w, err)
	}
}

// The example of FIPS 180-4 for abc tells the state behind its first round.
func TestRoundOfTheStandardsExample(t *testing.T) { // P1.1
	got := sha.Round(sha.First(), 0x428a2f98, 0x61626380)
	want := [8]uint32{0x5d6aebcd, 0x6a09e667, 0xbb67ae85, 0x3c6ef372, 0xfa2a4622, 0x510e527f, 0x9b05688c, 0x1f83d9ab}
	if got != want {
		t.Errorf("got %08x, want %08x", got, want)
	}
}

func TestRoundIsAsDefined(t *testing.T) { // P1.1
	for seed := range uint32(200) {
		v := stateOf(seed)
		k, w := stateOf(seed + 1000)[0], stateOf(seed + 2000)[3]
		a, b, c, d, e, f, g, h := v[0], v[1], v[2], v[3], v[4], v[5], v[6], v[7]
		choice, majority := uint32(0), uint32(0)
		for i := range 32 {
			bit := func(x uint32) uint32 { return x >> i & 1 }
			choice |= []uint32{bit(g), bit(f)}[bit(e)] << i
			majority |= (bit(a) + bit(b) + bit(c)) / 2 << i
		}
		t1 := h + (turn(e, 6) ^ turn(e, 11) ^ turn(e, 25)) + choice + k + w
		t2 := (turn(a, 2) ^ turn(a, 13) ^ turn(a, 22)) + majority
		want := [8]uint32{t1 + t2, a, b, c, d + t1, e, f, g}
		if got := sha.Round(v, k, w); got != want {
			t.Fatalf("Round(%08x, %08x, %08x) = %08x, want %08x", v, k, w, got, want)
		}
	}
}

func TestRoundWrapsAround(t *testing.T) { // P1.1
	all := ^uint32(0)
	v := [8]uint32{all, all, all, all, all, all, all, all}
	// t1 is five times -1, that is -5; t2 is -2.
	want := [8]uint32{all - 6, all, all, all, all - 5, all, all, all}
	if got := sha.Round(v, all, all); got != want {
		t.Errorf("got %08x, want %08x", got, want)
	}
}

func TestFirstComesFromSquareRoots(t *testing.T) { // P1.2
	got := sha.First()
	for i, p := range primes(8) {
		if want := fraction(p, 2); got[i] != want {
			t.Errorf("word %d is %08x, want %08x", i, got[i], want)
		}
	}
}

// A step is 64 rounds, with constants that the test works out by itself, and an
// addition; it ties Step to Round and to Words.
func TestStepIsItsRounds(t *testing.T) { // P1.2
	constants := primes(64)
	for seed := range uint32(20) {
		v, block := stateOf(seed), filled(64, seed+500)
		words, err := sha.Words(block)
		if err != nil {
			t.Fatal(err)
		}
		want := v
		for i, p := range constants {
			want = sha.Round(want, fraction(p, 3), words[i])
		}
		for i := range want {
			want[i] += v[i]
		}
		if got, err := sha.Step(v, block); err != nil || got != want {
			t.Fatalf("Step(%08x, %x) = %08x, %v; want %08x", v, block, got, err, want)
		}
	}
}

func TestStepAgreesWithTheLibrary(t *testing.T) { // P1.2
	all := ^uint32(0)
	states := [][8]uint32{{}, {all, all, all, all, all, all, all, all}, sha.First()}
	for seed := range uint32(100) {
		states = append(states, stateOf(seed))
	}
	for i, v := range states {
		for _, block := range [][]byte{make([]byte, 64), bytes.Repeat([]byte{0xff}, 64), filled(64, uint32(i))} {
			want := libraryStep(t, v, block)
			if got, err := sha.Step(v, block); err != nil || got != want {
				t.Fatalf("Step(%08x, %x) = %08x, %v; want %08x", v, block, got, err, want)
			}
		}
	}
}

func TestStepRefuses(t *testing.T) { // P1.2
	for _, n := range badLengths {
		v, err := sha.Step(sha.First(), make([]byte, n, n+64))
		mustBeArg(t, "Step", n, err)
		if v != [8]uint32{} {
			t.Errorf("Step of %d bytes: %08x beside an error", n, v)
		}
	}
	if v, err := sha.Step(sha.First(), nil); err != error(api.ErrArg) || v != [8]uint32{} {
		t.Error("Step of nil:", v, err)
	}
}

func TestSumOfKnownTexts(t *testing.T) { // P1.2
	for _, c := range []struct{ text, want string }{
		{"", "e3b0c44298fc1c149afbf4c8996fb92427ae41e4649b934ca495991b7852b855"},
		{"abc", "ba7816bf8f01cfea414140de5dae2223b00361a396177a9cb410ff61f20015ad"},
		{"abcdbcdecdefdefgefghfghighijhijkijkljklmklmnlmnomnopnopq", "248d6a61d20638b8e5c026930c3e6039a33ce45964ff2167f6ecedd419db06c1"},
		{string(bytes.Repeat([]byte("a"), 1000000)), "cdc76e5c9914fb9281a1c7e284d73e67f1809a48a497200e046d39ccc7112cd0"},
	} {
		if got := hex.EncodeToString(sha.Sum([]byte(c.text))); got != c.want {
			t.Errorf("Sum of %d bytes is %s, want %s", len(c.text), got, c.want)
		}
	}
}

func TestSumAgreesWithTheLibrary(t *testing.T) { // P1.2
	lengths := []int{1000, 4095, 4096, 4097, 1 << 20, 1<<20 + 55, 1<<20 + 56}
	for n := range 400 {
		lengths = append(lengths, n)
	}
	for _, n := range lengths {
		b := filled(n, uint32(n))
		want := sha256.Sum256(b)
		if got := sha.Sum(b); !bytes.Equal(got, want[:]) {
			t.Errorf("Sum of %d bytes is %x, want %x", n, got, want)
		}
	}
	if !bytes.Equal(sha.Sum(nil), sha.Sum([]byte{})) {
		t.Error("nil and no bytes differ")
	}
}

// The arguments stand in the midst of a longer array: what is written behind
// them by an append would show too.
func TestArgumentsAreNotModified(t *testing.T) { // P1.3
	for _, n := range []int{0, 1, 55, 56, 63, 64, 65, 128, 200} {
		array := filled(n+512, 7)
		kept := bytes.Clone(array)
		b := array[100 : 100+n]
		v := stateOf(3)
		sha.Sum(b)
		sha.Words(b)
		sha.Step(v, b)
		sha.Round(v, 1, 2)
		if !bytes.Equal(array, kept) {
			t.Errorf("the bytes around an argument of %d bytes were changed", n)
		}
		if v != stateOf(3) {
			t.Error("the state was changed")
		}
	}
}

func TestArgumentsAreNotRetained(t *testing.T) { // P1.3
	block := filled(64, 9)
	words, _ := sha.Words(block)
	sum := sha.Sum(block)
	keptWords, keptSum := slices.Clone(words), bytes.Clone(sum)
	clear(block)
	if !slices.Equal(words, keptWords) || !bytes.Equal(sum, keptSum) {
		t.Error("a result follows its argument")
	}
	if again := sha.Sum(filled(64, 9)); !bytes.Equal(again, keptSum) {
		t.Error("a call follows the argument of an earlier one")
	}
}

func TestResultsAreNew(t *testing.T) { // P1.3, R2
	block := filled(64, 11)
	for range 2 {
		tail, _ := sha.Tail(3)
		words, _ := sha.Words(block)
		sum := sha.Sum(block)
		first := sha.First()
		step, _ := sha.Step(first, block)
		want := sha256.Sum256(block)
		if tail[0] != 0x80 || tail[60] != 24 || words[0] != binary.BigEndian.Uint32(block) ||
			!bytes.Equal(sum, want[:]) || first[0] != 0x6a09e667 || step != libraryStep(t, sha.First(), block) {
			t.Fatal("a result that was written into was handed out again")
		}
		clear(tail)
		clear(words)
		clear(sum)
		clear(first[:])
		clear(step[:])
	}
}

func TestDigestBlockByBlock(t *testing.T) { // P1.4
	for n := range 400 {
		b := filled(n, uint32(n)+77)
		tail, err := sha.Tail(n)
		if err != nil {
			t.Fatal(err)
		}
		all := append(bytes.Clone(b), tail...)
		if len(all)%64 != 0 {
			t.Fatalf("%d bytes and their tail are no whole blocks", n)
		}
		v := sha.First()
		for block := range slices.Chunk(all, 64) {
			if v, err = sha.Step(v, block); err != nil {
				t.Fatal(err)
			}
		}
		if !bytes.Equal(bytes8(v), sha.Sum(b)) {
			t.Errorf("%d bytes: %x block by block, %x at once", n, bytes8(v), sha.Sum(b))
		}
	}
}

// A digest goes on from a state that was noted, here that of the library.
func TestDigestGoesOnFromANotedState(t *testing.T) { // P1.4
	b := filled(5*64+30, 13)
	v := sha.First()
	for block := range slices.Chunk(b[:3*64], 64) {
		v = libraryStep(t, v, block)
	}
	tail, _ := sha.Tail(len(b))
	for block := range slices.Chunk(append(bytes.Clone(b[3*64:]), tail...), 64) {
		v, _ = sha.Step(v, block)
	}
	if want := sha256.Sum256(b); !bytes.Equal(bytes8(v), want[:]) {
		t.Errorf("got %x, want %x", bytes8(v), want)
	}
}

func FuzzAllCalls(f *testing.F) { // P1
	f.Add([]byte(nil), 0, uint32(0), uint32(0))
	f.Add(filled(64, 1), 1<<50, ^uint32(0), uint32(1))
	f.Add(filled(65, 2), math.MinInt, uint32(5), ^uint32(0))
	f.Fuzz(func(t *testing.T, b []byte, n int, k, w uint32) {
		want := sha256.Sum256(b)
		if !bytes.Equal(sha.Sum(b), want[:]) {
			t.Errorf("Sum(%x)", b)
		}
		if _, err := sha.Tail(n); (err != nil) != (n < 0 || n > 1<<50) {
			t.Errorf("Tail(%d): %v", n, err)
		}
		words, err := sha.Words(b)
		if (err == nil) != (len(b) == 64) || (err == nil) != (len(words) == 64) {
			t.Errorf("Words(%x): %d words, %v", b, len(words), err)
		}
		v := sha.Round(sha.First(), k, w)
		got, err := sha.Step(v, b)
		if (err == nil) != (len(b) == 64) || err == nil && got != libraryStep(t, v, b) {
			t.Errorf("Step(%08x, %x): %08x, %v", v, b, got, err)
		}
	})
}
