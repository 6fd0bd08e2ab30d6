package coder_test

import (
	"bytes"
	"encoding/hex"
	"math"
	"math/big"
	"slices"
	"testing"

	"heartwood/api"
	"heartwood/coder"
)

// border is a number beside which the length of the encoding changes, and its
// encoding as the document's definition gives it, written by hand.
type border struct {
	v    uint64
	want string
}

var borders = []border{
	{0, "00"},
	{1, "01"},
	{127, "7f"},
	{128, "80"},
	{246, "f6"},
	{247, "f7"},
	{248, "f8f8"},
	{249, "f8f9"},
	{254, "f8fe"},
	{255, "f8ff"},
	{256, "f90100"},
	{257, "f90101"},
	{65534, "f9fffe"},
	{65535, "f9ffff"},
	{65536, "fa010000"},
	{65537, "fa010001"},
	{1<<24 - 1, "faffffff"},
	{1 << 24, "fb01000000"},
	{1<<32 - 1, "fbffffffff"},
	{1 << 32, "fc0100000000"},
	{1<<40 - 1, "fcffffffffff"},
	{1 << 40, "fd010000000000"},
	{1<<48 - 1, "fdffffffffffff"},
	{1 << 48, "fe01000000000000"},
	{1<<56 - 1, "feffffffffffffff"},
	{1 << 56, "ff0100000000000000"},
	{api.MaxNumber, "ff1000000000000000"},
	{0x0123456789abcdef, "ff0123456789abcdef"},
	{0x123456789abc, "fd123456789abc"},
	{math.MaxInt64, "ff7fffffffffffffff"},
	{1 << 63, "ff8000000000000000"},
	{18446744073709551615, "ffffffffffffffffff"},
}

func unhex(t testing.TB, s string) []byte {
	t.Helper()
	b, err := hex.DecodeString(s)
	if err != nil {
		t.Fatal(err)
	}
	return b
}

// filled returns n bytes without a short period, so that a mixed-up order shows.
func filled(n int, seed uint32) []byte {
	out := make([]byte, n)
	x := seed*2654435761 + 1
	for i := range out {
		x = x*1664525 + 1013904223
		out[i] = byte(x >> 24)
	}
	return out
}

// spelled is the encoding of v by the definition's words, with the library's
// big-endian bytes.
func spelled(v uint64) []byte {
	if v <= 247 {
		return []byte{byte(v)}
	}
	digits := new(big.Int).SetUint64(v).Bytes()
	return append([]byte{byte(247 + len(digits))}, digits...)
}

// spread returns numbers of all lengths in bits, and those beside them.
func spread() []uint64 {
	var out []uint64
	for v := range uint64(1024) {
		out = append(out, v)
	}
	for shift := range 64 {
		p := uint64(1) << shift
		out = append(out, p-1, p, p+1, p|p>>1, p|p>>3|5, -p, ^p)
	}
	for i := range uint64(500) {
		out = append(out, (i+1)*0x9e3779b97f4a7c15>>(i%64))
	}
	slices.Sort(out)
	return slices.Compact(out)
}

// mustEnd fails unless End answers want, as a plain Code or nil.
func mustEnd(t *testing.T, r *coder.Reader, want error) {
	t.Helper()
	if err := r.End(); err != want {
		t.Errorf("End answers %v, want %v", err, want)
	}
}

// mustStayFailed fails unless the reader's error flag is set and stays so,
// with 0 or no bytes from each method.
func mustStayFailed(t *testing.T, r *coder.Reader) {
	t.Helper()
	for range 3 {
		mustEnd(t, r, api.ErrForm)
		if v := r.Number(); v != 0 {
			t.Errorf("Number answers %d after a failure", v)
		}
		mustEnd(t, r, api.ErrForm)
		if b := r.Byte(); b != 0 {
			t.Errorf("Byte answers %d after a failure", b)
		}
		mustEnd(t, r, api.ErrForm)
		for _, most := range []int{-1, 0, 1, 100, math.MaxInt} {
			if b := r.Bytes(most); len(b) != 0 {
				t.Errorf("Bytes(%d) answers %x after a failure", most, b)
			}
		}
	}
}

// P2.1: Number, at each border of the lengths.
func TestNumberAtBorders(t *testing.T) {
	for _, c := range borders {
		if got := coder.Number(c.v); !bytes.Equal(got, unhex(t, c.want)) {
			t.Errorf("Number(%d) = %x, want %s", c.v, got, c.want)
		}
	}
}

// P2.1: Number, against the definition's words.
func TestNumberAsDefined(t *testing.T) {
	for _, v := range spread() {
		if got, want := coder.Number(v), spelled(v); !bytes.Equal(got, want) {
			t.Errorf("Number(%d) = %x, want %x", v, got, want)
		}
	}
	for v := range uint64(1 << 17) {
		if got, want := coder.Number(v), spelled(v); !bytes.Equal(got, want) {
			t.Fatalf("Number(%d) = %x, want %x", v, got, want)
		}
	}
}

// P2.1: Bytes, with lengths at each border that a test can hold.
func TestBytes(t *testing.T) {
	if got := coder.Bytes(nil); !bytes.Equal(got, []byte{0}) {
		t.Errorf("Bytes(nil) = %x", got)
	}
	if got := coder.Bytes([]byte{}); !bytes.Equal(got, []byte{0}) {
		t.Errorf("Bytes of no bytes = %x", got)
	}
	if got := coder.Bytes([]byte("ab")); !bytes.Equal(got, []byte{2, 'a', 'b'}) {
		t.Errorf("Bytes(ab) = %x", got)
	}
	for _, n := range []int{1, 2, 246, 247, 248, 249, 255, 256, 257, 65535, 65536, 65537, 1 << 20, 1<<24 - 1, 1 << 24} {
		b := filled(n, uint32(n))
		if want := append(spelled(uint64(n)), b...); !bytes.Equal(coder.Bytes(b), want) {
			t.Errorf("Bytes of %d bytes is not their encoding", n)
		}
	}
}

// P2.2, P2.3: a reader decodes every number, and is at the end then.
func TestReadNumber(t *testing.T) {
	for _, c := range borders {
		r := coder.NewReader(unhex(t, c.want))
		mustEnd(t, r, api.ErrMore)
		if got := r.Number(); got != c.v {
			t.Errorf("%s read as %d, want %d", c.want, got, c.v)
		}
		mustEnd(t, r, nil)
	}
}

// P2.2: a reader goes on behind what it has read, value by value.
func TestReadInTurn(t *testing.T) {
	var all []byte
	for _, c := range borders {
		all = append(all, unhex(t, c.want)...)
		all = append(all, 0xff)
		all = append(all, 3, 'x', 'y', byte(len(c.want)))
	}
	r := coder.NewReader(all)
	for _, c := range borders {
		mustEnd(t, r, api.ErrMore)
		if got := r.Number(); got != c.v {
			t.Errorf("Number answers %d, want %d", got, c.v)
		}
		mustEnd(t, r, api.ErrMore)
		if got := r.Byte(); got != 0xff {
			t.Errorf("Byte answers %d", got)
		}
		if got := r.Bytes(3); !bytes.Equal(got, []byte{'x', 'y', byte(len(c.want))}) {
			t.Errorf("Bytes answers %x", got)
		}
	}
	mustEnd(t, r, nil)
}

// P2.2: the byte at the position is any byte, not a number.
func TestReadByte(t *testing.T) {
	all := make([]byte, 256)
	for i := range all {
		all[i] = byte(i)
	}
	r := coder.NewReader(all)
	for i := range all {
		if got := r.Byte(); got != byte(i) {
			t.Errorf("Byte answers %d, want %d", got, i)
		}
	}
	mustEnd(t, r, nil)
	if got := r.Byte(); got != 0 {
		t.Errorf("Byte answers %d at the end", got)
	}
	mustStayFailed(t, r)
}

// P2.2: encodings with more bytes than the number needs are none.
func TestNotCanonical(t *testing.T) {
	for _, s := range []string{
		"f800", "f801", "f805", "f87f", "f880", "f8f6", "f8f7",
		"f90000", "f90001", "f900f8", "f900ff",
		"fa000000", "fa000001", "fa0000ff", "fa000100", "fa00ffff",
		"fb00000000", "fb00ffffff", "fb00010000", "fc00ffffffff", "fd00ffffffffff",
		"fe00ffffffffffff", "ff00ffffffffffffff", "ff0000000000000000", "ff0000000000000001",
	} {
		r := coder.NewReader(unhex(t, s))
		if got := r.Number(); got != 0 {
			t.Errorf("%s read as %d", s, got)
		}
		mustStayFailed(t, r)
		// What follows is out of reach too.
		r = coder.NewReader(append(unhex(t, s), 7, 7, 7, 7, 7, 7, 7, 7, 7))
		if got := r.Number(); got != 0 {
			t.Errorf("%s read as %d with bytes behind it", s, got)
		}
		mustStayFailed(t, r)
		r = coder.NewReader(append(unhex(t, s), filled(300, 1)...))
		if got := r.Bytes(math.MaxInt); len(got) != 0 {
			t.Errorf("%s taken for a length", s)
		}
		mustStayFailed(t, r)
	}
}

// P2.2: every encoding that is cut off, at each of its places, is none.
func TestCutOff(t *testing.T) {
	for _, c := range borders {
		whole := unhex(t, c.want)
		for n := range len(whole) {
			r := coder.NewReader(whole[:n])
			if got := r.Number(); got != 0 {
				t.Errorf("%x read as %d", whole[:n], got)
			}
			mustStayFailed(t, r)
		}
	}
	for _, size := range []int{1, 2, 247, 248, 300} {
		whole := coder.Bytes(filled(size, 3))
		for n := range len(whole) {
			r := coder.NewReader(whole[:n])
			if got := r.Bytes(size); len(got) != 0 {
				t.Errorf("%d of %d bytes read as %x", n, len(whole), got)
			}
			mustStayFailed(t, r)
		}
	}
	for _, none := range [][]byte{nil, {}} {
		r := coder.NewReader(none)
		mustEnd(t, r, nil)
		if got := r.Number(); got != 0 {
			t.Errorf("nothing read as %d", got)
		}
		mustStayFailed(t, r)
		r = coder.NewReader(none)
		if got := r.Bytes(5); len(got) != 0 {
			t.Errorf("nothing read as %x", got)
		}
		mustStayFailed(t, r)
	}
}

// P2.2: a byte string has at most most bytes; with a negative most none is
// accepted.
func TestMost(t *testing.T) {
	for _, size := range []int{0, 1, 2, 246, 247, 248, 255, 256, 65536} {
		b := filled(size, 7)
		for _, most := range []int{math.MinInt, -256, -2, -1, 0, 1, size - 1, size, size + 1, 1 << 30, math.MaxInt} {
			r := coder.NewReader(append(coder.Bytes(b), 9))
			got := r.Bytes(most)
			if most < 0 || size > most {
				if len(got) != 0 {
					t.Errorf("Bytes(%d) answers %d bytes", most, len(got))
				}
				mustStayFailed(t, r)
				continue
			}
			if !bytes.Equal(got, b) {
				t.Errorf("Bytes(%d) of %d bytes answers others", most, size)
			}
			mustEnd(t, r, api.ErrMore)
			if next := r.Byte(); next != 9 {
				t.Errorf("Byte behind %d bytes answers %d", size, next)
			}
			mustEnd(t, r, nil)
		}
	}
}

// P2.2: a length far beyond the bytes, or beyond an int, is no length.
func TestLengthBeyond(t *testing.T) {
	for _, n := range []uint64{6, 248, 1 << 16, 1 << 31, 1<<31 + 5, 1 << 32, 1<<32 + 5, math.MaxInt64, 1 << 63, 1<<63 + 5, math.MaxUint64} {
		for _, most := range []int{-1, 0, 5, math.MaxInt32, math.MaxInt} {
			r := coder.NewReader(append(coder.Number(n), "abcde"...))
			if got := r.Bytes(most); len(got) != 0 {
				t.Errorf("a length of %d answers %x", n, got)
			}
			mustStayFailed(t, r)
		}
	}
}

// P2.2: whichever method sets the error flag, it stays set, also if bytes are
// left that would be a value.
func TestFlagStays(t *testing.T) {
	fails := map[string]func(r *coder.Reader){
		"Number":         func(r *coder.Reader) { r.Number() },
		"Bytes":          func(r *coder.Reader) { r.Bytes(500) },
		"negative most":  func(r *coder.Reader) { r.Bytes(-1) },
		"Byte at an end": func(r *coder.Reader) { r.Bytes(500); r.Byte() },
	}
	inputs := map[string]string{
		"Number":         "f8050102030405",
		"Bytes":          "060102030405",
		"negative most":  "000102030405",
		"Byte at an end": "0101",
	}
	for name, f := range fails {
		r := coder.NewReader(unhex(t, inputs[name]))
		f(r)
		t.Run(name, func(t *testing.T) { mustStayFailed(t, r) })
	}
}

// P2.3: the error flag is told ahead of bytes that are left; End itself
// changes nothing.
func TestEnd(t *testing.T) {
	r := coder.NewReader([]byte{5, 6})
	for range 3 {
		mustEnd(t, r, api.ErrMore)
	}
	if v := r.Number(); v != 5 {
		t.Errorf("Number answers %d", v)
	}
	for range 3 {
		mustEnd(t, r, api.ErrMore)
	}
	if v := r.Number(); v != 6 {
		t.Errorf("Number answers %d", v)
	}
	for range 3 {
		mustEnd(t, r, nil)
	}
	r = coder.NewReader([]byte{0xf8, 5, 1, 2})
	r.Number()
	mustEnd(t, r, api.ErrForm)
	r = coder.NewReader([]byte{0xf8, 5})
	if v := r.Number(); v != 0 {
		t.Errorf("Number answers %d", v)
	}
	mustEnd(t, r, api.ErrForm)
}

// P2.4: arguments are not modified, nor what lies behind them.
func TestArgumentsUntouched(t *testing.T) {
	room := append(coder.Bytes(filled(20, 1)), coder.Bytes(filled(20, 2))...)
	before := bytes.Clone(room)
	b := room[:21]
	coder.Bytes(b)
	coder.Bytes(room[:0])
	r := coder.NewReader(b)
	got := r.Bytes(20)
	clear(got[:cap(got)])
	mustEnd(t, r, nil)
	if !bytes.Equal(room, before) {
		t.Error("an argument was modified")
	}
}

// P2.4: what is done to an argument afterwards doesn't show.
func TestArgumentsNotRetained(t *testing.T) {
	b := []byte("abc")
	out := coder.Bytes(b)
	b[0] = 'z'
	if !bytes.Equal(out, []byte("\x03abc")) {
		t.Errorf("Bytes holds on to its argument: %x", out)
	}
	in := []byte{5, 2, 'h', 'i', 0xf8, 0xff, 9}
	r := coder.NewReader(in)
	in[0] = 6
	if v := r.Number(); v != 5 {
		t.Errorf("Number answers %d", v)
	}
	copy(in, "zzzzzzz")
	if got := r.Bytes(2); string(got) != "hi" {
		t.Errorf("Bytes answers %q", got)
	}
	if v := r.Number(); v != 255 {
		t.Errorf("Number answers %d", v)
	}
	if v := r.Byte(); v != 9 {
		t.Errorf("Byte answers %d", v)
	}
	mustEnd(t, r, nil)
}

// P2.4: results are new memory, with what may be appended to them as well.
func TestResultsFresh(t *testing.T) {
	for _, v := range []uint64{0, 5, 247, 248, 1 << 40} {
		first := coder.Number(v)
		clear(first[:cap(first)])
		first[0] = 0xee
		if got := coder.Number(v); !bytes.Equal(got, spelled(v)) {
			t.Errorf("Number(%d) = %x after its result was overwritten", v, got)
		}
	}
	r := coder.NewReader([]byte{2, 'a', 'b', 2, 'c', 'd', 7})
	first := r.Bytes(2)
	_ = append(first, "xxxxxxxx"...)
	second := r.Bytes(2)
	clear(first[:cap(first)])
	if string(second) != "cd" || r.Number() != 7 {
		t.Errorf("a result shares memory with the reader: %q", second)
	}
	mustEnd(t, r, nil)
	in := []byte{1, 'a'}
	one, two := coder.NewReader(in), coder.NewReader(in)
	if one.Byte() != 1 || string(two.Bytes(1)) != "a" || one.Byte() != 'a' {
		t.Error("two readers of one byte string disturb each other")
	}
}

// P2.5: decoding inverts encoding.
func TestDecodingInverts(t *testing.T) {
	for _, v := range spread() {
		r := coder.NewReader(coder.Number(v))
		if got := r.Number(); got != v || r.End() != nil {
			t.Errorf("%d comes back as %d, %v", v, got, r.End())
		}
	}
	for n := range 600 {
		b := filled(n, uint32(n))
		r := coder.NewReader(coder.Bytes(b))
		if got := r.Bytes(n); !bytes.Equal(got, b) || r.End() != nil {
			t.Errorf("%d bytes come back as %x, %v", n, got, r.End())
		}
	}
}

// P2.5: no encoding of a number is a proper prefix of another one's. In
// lexicographic order a prefix stands right ahead of something it begins.
func TestNoPrefix(t *testing.T) {
	var all [][]byte
	for _, v := range spread() {
		all = append(all, coder.Number(v))
	}
	slices.SortFunc(all, bytes.Compare)
	for i := 1; i < len(all); i++ {
		if bytes.HasPrefix(all[i], all[i-1]) {
			t.Errorf("%x begins %x", all[i-1], all[i])
		}
	}
}

// P2.2, P2.5: of all short byte strings, exactly the encodings are accepted.
func TestAllShortStrings(t *testing.T) {
	var accepted int
	try := func(b []byte) {
		r := coder.NewReader(b)
		v := r.Number()
		if r.End() != nil {
			return
		}
		accepted++
		if !bytes.Equal(coder.Number(v), b) {
			t.Errorf("%x read as %d, whose encoding is another", b, v)
		}
	}
	try(nil)
	for a := range 256 {
		try([]byte{byte(a)})
		for b := range 256 {
			try([]byte{byte(a), byte(b)})
		}
	}
	for first := 246; first < 256; first++ {
		for rest := range 1 << 16 {
			try([]byte{byte(first), byte(rest >> 8), byte(rest)})
		}
	}
	if want := 1 << 16; accepted != want {
		t.Errorf("%d byte strings of up to 3 bytes accepted, want one for each of %d numbers", accepted, want)
	}
}

// model reads as the document says, by cutting a byte string itself.
type model struct {
	rest []byte
	bad  bool
}

func (m *model) number() uint64 {
	for n := 0; !m.bad && n <= 8 && n < len(m.rest); n++ {
		v := new(big.Int).SetBytes(m.rest[min(n, 1) : n+1]).Uint64()
		if bytes.Equal(spelled(v), m.rest[:n+1]) {
			m.rest = m.rest[n+1:]
			return v
		}
	}
	m.bad = true
	return 0
}

func (m *model) bytes(most int) []byte {
	n := m.number()
	if m.bad || most < 0 || n > uint64(most) || n > uint64(len(m.rest)) {
		m.bad = true
		return nil
	}
	out := m.rest[:n]
	m.rest = m.rest[n:]
	return out
}

func (m *model) one() byte {
	if m.bad || len(m.rest) == 0 {
		m.bad = true
		return 0
	}
	out := m.rest[0]
	m.rest = m.rest[1:]
	return out
}

func (m *model) end() error {
	if m.bad {
		return api.ErrForm
	}
	if len(m.rest) > 0 {
		return api.ErrMore
	}
	return nil
}

// P1, P2.1 to P2.5: any script of calls answers as the model does.
func FuzzAllCalls(f *testing.F) {
	f.Add([]byte{5, 6}, []byte{0, 0, 0}, uint64(247), 3)
	f.Add([]byte{0xf8, 5, 1}, []byte{0, 1, 2}, uint64(248), -1)
	f.Add([]byte{3, 1, 2, 3, 0xf9, 1, 0, 9}, []byte{1, 0, 2, 2}, uint64(1<<63), 3)
	f.Add([]byte{0xff, 0xff, 0xff, 0xff, 0xff, 0xff, 0xff, 0xff, 0xff}, []byte{1, 0}, uint64(math.MaxUint64), math.MaxInt)
	f.Fuzz(func(t *testing.T, in, script []byte, v uint64, most int) {
		if got := coder.Number(v); !bytes.Equal(got, spelled(v)) {
			t.Errorf("Number(%d) = %x", v, got)
		}
		if got, want := coder.Bytes(in), append(spelled(uint64(len(in))), in...); !bytes.Equal(got, want) {
			t.Errorf("Bytes(%x) = %x", in, got)
		}
		before := bytes.Clone(in)
		r, m := coder.NewReader(in), &model{rest: before}
		for _, op := range script {
			switch op % 3 {
			case 0:
				if got, want := r.Number(), m.number(); got != want {
					t.Errorf("Number answers %d, want %d", got, want)
				}
			case 1:
				if got, want := r.Bytes(most), m.bytes(most); !bytes.Equal(got, want) {
					t.Errorf("Bytes answers %x, want %x", got, want)
				}
			case 2:
				if got, want := r.Byte(), m.one(); got != want {
					t.Errorf("Byte answers %d, want %d", got, want)
				}
			}
			mustEnd(t, r, m.end())
		}
		if !bytes.Equal(in, before) {
			t.Error("an argument was modified")
		}
	})
}
