package command_test

import (
	"math"
	"math/rand"
	"slices"
	"strings"
	"testing"

	"heartwood/api"
	"heartwood/command"
)

// P12.1: Read.

// TestProperBeginnings: no beginning of an encoding is one.
func TestProperBeginnings(t *testing.T) {
	mustNotRead(t, "no bytes", "", api.ErrForm)
	if c, err := command.Read(nil); err != api.ErrForm || !sameCommand(c, api.Command{}) {
		t.Errorf("Read of nil = %v, %v", toldCommand(c), err)
	}
	for _, c := range sampleCommands() {
		b := spelled(c)
		for n := range len(b) {
			mustNotRead(t, "a beginning of "+toldCommand(c), b[:n], api.ErrForm)
		}
	}
}

// TestBytesBehind: whatever follows, and however much.
func TestBytesBehind(t *testing.T) {
	for _, c := range sampleCommands() {
		b := spelled(c)
		mustRead(t, "nothing behind", b, c, nil)
		for x := range 256 {
			mustNotRead(t, "a byte behind "+toldCommand(c), b+string([]byte{byte(x)}), api.ErrMore)
		}
		for _, d := range sampleCommands() {
			mustNotRead(t, "a command behind "+toldCommand(c), b+spelled(d), api.ErrMore)
		}
		mustNotRead(t, "many bytes behind", b+filled(100000, 1), api.ErrMore)
	}
}

// TestOpsThatAreRead: all bytes, where there is no value and where there is one.
func TestOpsThatAreRead(t *testing.T) {
	for op := range 256 {
		one := string([]byte{byte(op)})
		for _, rest := range []string{"\x01k\x01v", "\x01k\x00", "\x00\x00", "\x00\x01\x00"} {
			err := mustAgreeOnBytes(t, "any op", "\x05\x01"+one+rest)
			if (err == nil) != (op == 1 || op == 2 && strings.HasSuffix(rest, "k\x00") || op == 2 && rest == "\x00\x00") {
				t.Errorf("the op %d with %q: %v", op, rest, err)
			}
			if op != 1 && op != 2 {
				mustNotRead(t, "an op that there is not, and bytes behind", "\x05\x01"+one+rest+"\x00", api.ErrForm)
				mustNotRead(t, "an op that there is not, and nothing", "\x05\x01"+one, api.ErrForm)
			}
		}
	}
}

// TestOpDeleteWithAValueIsRead: there is no such encoding, whatever follows.
func TestOpDeleteWithAValueIsRead(t *testing.T) {
	for _, n := range []int{1, 2, 247, 248, 1024, 1025} {
		for _, value := range []string{filled(n, 1), strings.Repeat("\x00", n)} {
			b := "\x05\x01\x02\x01k" + field(value)
			mustNotRead(t, "a delete with a value", b, api.ErrForm)
			mustNotRead(t, "a delete with a value, and bytes behind", b+"\x00", api.ErrForm)
			mustNotRead(t, "a delete with a value that is not there", b[:len(b)-1], api.ErrForm)
		}
	}
	mustNotRead(t, "a delete with a byte behind", "\x05\x01\x02\x01k\x00\x00", api.ErrMore)
}

// TestFieldsThatAreTooLong: a key and a value above their limits, with all
// their bytes, more and fewer.
func TestFieldsThatAreTooLong(t *testing.T) {
	for _, n := range []int{64, 65, 66, 80, 81, 247, 248, 255, 256, 320, 1024} {
		b := "\x05\x01\x01" + field(filled(n, 1)) + "\x01v"
		err := mustAgreeOnBytes(t, "a long key", b)
		if (err == nil) != (n <= 64) {
			t.Errorf("a key of %d bytes: %v", n, err)
		}
		mustAgreeOnBytes(t, "a long key, and bytes behind", b+"\x00")
		mustAgreeOnBytes(t, "a long key with bytes that are missing", b[:len(b)-3])
		mustAgreeOnBytes(t, "a long key to be deleted", "\x05\x01\x02"+field(filled(n, 1))+"\x00")
	}
	for _, n := range []int{1023, 1024, 1025, 1026, 1280, 2048, 4096, 1 << 16, 1<<16 + 1} {
		b := "\x05\x01\x01\x01k" + field(filled(n, 1))
		err := mustAgreeOnBytes(t, "a long value", b)
		if (err == nil) != (n <= 1024) {
			t.Errorf("a value of %d bytes: %v", n, err)
		}
		mustAgreeOnBytes(t, "a long value, and bytes behind", b+"\x00")
		mustAgreeOnBytes(t, "a long value with a byte that is missing", b[:len(b)-1])
	}
}

// TestLengthsBeyondWhatIsLeft: lengths that no memory holds are just too long.
func TestLengthsBeyondWhatIsLeft(t *testing.T) {
	lengths := []uint64{3, 64, 65, 1024, 1025, math.MaxUint32, math.MaxUint32 + 1, math.MaxUint32 + 2, math.MaxInt64, math.MaxInt64 + 1, math.MaxInt64 + 3, math.MaxUint64 - 1, math.MaxUint64}
	for _, n := range lengths {
		for _, rest := range []string{"", "k", "kk", "k\x00"} {
			mustNotRead(t, "a key that ends early", "\x05\x01\x01"+number(n)+rest, api.ErrForm)
			mustNotRead(t, "a key that ends early", "\x05\x01\x02"+number(n)+rest, api.ErrForm)
			mustNotRead(t, "a value that ends early", "\x05\x01\x01\x01k"+number(n)+rest, api.ErrForm)
			mustNotRead(t, "a value that ends early", "\x05\x01\x02\x01k"+number(n)+rest, api.ErrForm)
		}
	}
}

// padded is a number in n bytes behind the byte that tells how many, be it the
// shortest encoding or not.
func padded(v uint64, n int) string {
	out := []byte{247 + byte(n)}
	for i := range n {
		out = append(out, byte(v>>(8*(n-1-i))))
	}
	return string(out)
}

// TestNumbersNotAsCoderEncodes: each of the four numbers, in all encodings that
// are too long.
func TestNumbersNotAsCoderEncodes(t *testing.T) {
	for _, c := range append(sampleCommands(), put(1<<40, 1<<33, "k", "v"), put(1, 2, filled(64, 1), filled(300, 2))) {
		fields := []uint64{c.Client, c.Seq, uint64(len(c.Key)), uint64(len(c.Value))}
		for at := range fields {
			for n := 1; n <= 8; n++ {
				if n < 8 && fields[at]>>(8*n) != 0 {
					continue
				}
				parts := []string{number(fields[0]), number(fields[1]), string([]byte{byte(c.Op)}), number(fields[2]), string(c.Key), number(fields[3]), string(c.Value)}
				parts[[]int{0, 1, 3, 5}[at]] = padded(fields[at], n)
				b := strings.Join(parts, "")
				if b == spelled(c) {
					mustRead(t, "the shortest encoding", b, c, nil)
					continue
				}
				mustNotRead(t, "a number that is too long", b, api.ErrForm)
				mustNotRead(t, "a number that is too long, and bytes behind", b+"\x00\x01\x00\x00", api.ErrForm)
			}
		}
	}
}

// strung are all strings of n of some bytes.
func strung(n int, some string) []string {
	out := []string{""}
	for range n {
		var longer []string
		for _, s := range out {
			for i := range len(some) {
				longer = append(longer, s+some[i:i+1])
			}
		}
		out = longer
	}
	return out
}

// TestAllShortStrings holds all strings of some bytes against the encodings of
// all commands that are as short.
func TestAllShortStrings(t *testing.T) {
	met := map[error]int{}
	for _, some := range []string{"\x00\x01\x02\x03", "\x01\x02\xf8\xff", "\x00\x01\x02\xf7\xf8"} {
		all := map[string]api.Command{}
		add := func(c api.Command) {
			all[spelled(c)] = c
		}
		fields := slices.Concat(strung(0, some), strung(1, some), strung(2, some))
		numbers := []uint64{0, 1, 2, 3, 247}
		for _, n := range strung(1, some) {
			numbers = append(numbers, uint64(n[0]))
		}
		for _, client := range numbers {
			for _, seq := range numbers {
				for _, key := range fields {
					add(del(client, seq, key))
					for _, value := range fields {
						add(put(client, seq, key, value))
					}
				}
			}
		}
		for n := range 8 {
			for _, b := range strung(n, some) {
				err := mustAgreeOnBytes(t, "a short string", b)
				met[err]++
				if c, is := all[b]; is != (err == nil) || is && !sameCommand(c, parsedCommand(b)) {
					t.Errorf("Read of %x: %v, but it is an encoding: %v", b, err, is)
				}
			}
			if t.Failed() {
				return
			}
		}
	}
	if met[nil] < 100 || met[api.ErrForm] < 1000 || met[api.ErrMore] < 100 {
		t.Errorf("the strings met only %v", met)
	}
}

func parsedCommand(b string) api.Command {
	c, _, _ := parsed(b)
	return c
}

// drawnCommand is any command, good or not.
func drawnCommand(r *rand.Rand) api.Command {
	numbers := append(edges(), r.Uint64()>>r.Intn(64), r.Uint64()>>r.Intn(64))
	c := put(numbers[r.Intn(len(numbers))], numbers[r.Intn(len(numbers))], filled(r.Intn(66), r.Uint32()), filled(r.Intn(40), r.Uint32()))
	switch r.Intn(8) {
	case 0:
		c.Op = r.Intn(5) - 1
	case 1:
		c.Op = 2
	case 2, 3:
		c.Op, c.Value = 2, nil
	case 4:
		c.Value = []byte(filled(1020+r.Intn(6), r.Uint32()))
	}
	return c
}

// TestDrawnCommands: each has one encoding, which no other one has.
func TestDrawnCommands(t *testing.T) {
	r := rand.New(rand.NewSource(12))
	seen := map[string]api.Command{}
	refused := 0
	for range 20000 {
		c := drawnCommand(r)
		mustAgreeOnCommand(t, c)
		b, err := command.Write(c)
		if err != nil {
			refused++
			continue
		}
		if d, is := seen[string(b)]; is && !sameCommand(c, d) {
			t.Errorf("%s and %s have one encoding", toldCommand(c), toldCommand(d))
		}
		seen[string(b)] = c
	}
	if refused < 1000 || len(seen) < 5000 {
		t.Errorf("%d refused, %d written", refused, len(seen))
	}
}

// TestChangedEncodings makes small changes to encodings. Whatever can be read
// is written as the same bytes.
func TestChangedEncodings(t *testing.T) {
	r := rand.New(rand.NewSource(12))
	met := map[error]int{}
	for range 50000 {
		b := []byte(spelled(sampleCommands()[r.Intn(9)]))
		for range 1 + r.Intn(2) {
			i := r.Intn(len(b))
			switch r.Intn(4) {
			case 0:
				b[i] += byte(r.Intn(5) - 2)
			case 1:
				b[i] = byte(r.Intn(256))
			case 2:
				b = slices.Insert(b, i, byte(r.Intn(4)))
			case 3:
				b = slices.Delete(b, i, min(len(b), i+1+r.Intn(2)))
			}
			b = append(b, 0)[:max(1, len(b))]
		}
		met[mustAgreeOnBytes(t, "a changed encoding", string(b))]++
		c, err := command.Read(b)
		if err != nil {
			continue
		}
		mustWrite(t, c, string(b), nil)
	}
	for _, err := range []error{nil, api.ErrForm, api.ErrMore} {
		if met[err] < 500 {
			t.Errorf("the changed encodings met only %v", met)
		}
	}
}
