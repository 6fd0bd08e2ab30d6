package command_test

import (
	"math"
	"testing"

	"heartwood/api"
)

// P12.1: Write.

// badOps are those that are neither OpPut nor OpDelete, also those that would
// be one of them if they were bytes.
var badOps = []int{0, 3, 4, 255, -1, -2, -255, -254, 256, 257, 258, 1 << 16, 1<<16 + 1, 1<<32 + 1, 1<<32 + 2, math.MinInt, math.MinInt + 1, math.MinInt + 2, math.MaxInt}

// TestWrittenByHand holds a few encodings against bytes that are spelled out.
func TestWrittenByHand(t *testing.T) {
	for _, x := range []struct {
		c api.Command
		b string
	}{
		{put(5, 3, "a", "1"), "\x05\x03\x01\x01a\x011"},
		{del(5, 4, "a"), "\x05\x04\x02\x01a\x00"},
		{put(0, 0, "", ""), "\x00\x00\x01\x00\x00"},
		{del(0, 0, ""), "\x00\x00\x02\x00\x00"},
		{put(247, 248, "", "v"), "\xf7\xf8\xf8\x01\x00\x01v"},
		{put(255, 256, "kk", ""), "\xf8\xff\xf9\x01\x00\x01\x02kk\x00"},
		{del(65535, 65536, "k"), "\xf9\xff\xff\xfa\x01\x00\x00\x02\x01k\x00"},
		{put(math.MaxUint64, 1<<56-1, "k", "v"), "\xff\xff\xff\xff\xff\xff\xff\xff\xff\xfe\xff\xff\xff\xff\xff\xff\xff\x01\x01k\x01v"},
		{put(1<<56, math.MaxUint64, "k", "v"), "\xff\x01\x00\x00\x00\x00\x00\x00\x00\xff\xff\xff\xff\xff\xff\xff\xff\xff\x01\x01k\x01v"},
		{put(0x0102030405060708, 0x0a0b0c, "k", "v"), "\xff\x01\x02\x03\x04\x05\x06\x07\x08\xfa\x0a\x0b\x0c\x01\x01k\x01v"},
		{put(1, 2, filled(64, 1), filled(247, 2)), "\x01\x02\x01\x40" + filled(64, 1) + "\xf7" + filled(247, 2)},
		{put(1, 2, filled(3, 1), filled(248, 2)), "\x01\x02\x01\x03" + filled(3, 1) + "\xf8\xf8" + filled(248, 2)},
		{put(1, 2, filled(3, 1), filled(1024, 2)), "\x01\x02\x01\x03" + filled(3, 1) + "\xf9\x04\x00" + filled(1024, 2)},
	} {
		mustMatch(t, x.c, x.b)
	}
}

// TestNumbers: any Client with any Seq, at the edges.
func TestNumbers(t *testing.T) {
	for _, client := range edges() {
		for _, seq := range edges() {
			mustMatch(t, put(client, seq, "k", "v"), number(client)+number(seq)+"\x01\x01k\x01v")
			mustMatch(t, del(client, seq, "k"), number(client)+number(seq)+"\x02\x01k\x00")
		}
	}
}

// TestLengths: keys and values around their limits, with all Ops. What a limit
// rules out is refused, whatever else there is.
func TestLengths(t *testing.T) {
	for _, op := range []int{1, 2, 0, 3} {
		for _, key := range []int{0, 1, 2, 63, 64, 65, 66, 79, 80, 81, 128, 256, 320, 1024} {
			for _, value := range []int{0, 1, 2, 64, 247, 248, 255, 256, 1023, 1024, 1025, 1280, 4096, 1 << 16, 1<<16 + 1} {
				c := api.Command{Client: 1, Seq: 2, Op: op, Key: []byte(filled(key, 1)), Value: []byte(filled(value, 2))}
				mustAgreeOnCommand(t, c)
			}
		}
	}
	mustWrite(t, put(1, 2, filled(65, 1), ""), "", api.ErrArg)
	mustWrite(t, put(1, 2, "", filled(1025, 1)), "", api.ErrArg)
	mustWrite(t, del(1, 2, filled(65, 1)), "", api.ErrArg)
	mustWrite(t, put(1, 2, filled(1<<20, 1), ""), "", api.ErrArg)
}

// TestLists: no bytes may be nil or empty.
func TestLists(t *testing.T) {
	for _, key := range [][]byte{nil, {}} {
		for _, value := range [][]byte{nil, {}} {
			mustWrite(t, api.Command{Client: 1, Seq: 2, Op: 1, Key: key, Value: value}, "\x01\x02\x01\x00\x00", nil)
			mustWrite(t, api.Command{Client: 1, Seq: 2, Op: 2, Key: key, Value: value}, "\x01\x02\x02\x00\x00", nil)
		}
	}
}

// TestOpDeleteWithAValue: one byte is too much, also if it is a 0.
func TestOpDeleteWithAValue(t *testing.T) {
	for _, n := range []int{1, 2, 248, 1024, 1025} {
		c := del(1, 2, "k")
		c.Value = make([]byte, n)
		mustWrite(t, c, "", api.ErrArg)
		c.Value = []byte(filled(n, 1))
		mustWrite(t, c, "", api.ErrArg)
	}
}

// TestOpsThatThereAreNot: the whole number counts, not its last byte.
func TestOpsThatThereAreNot(t *testing.T) {
	for _, op := range badOps {
		for _, value := range []string{"", "v"} {
			mustWrite(t, api.Command{Client: 1, Seq: 2, Op: op, Key: []byte("k"), Value: []byte(value)}, "", api.ErrArg)
			mustWrite(t, api.Command{Op: op, Value: []byte(value)}, "", api.ErrArg)
		}
	}
	mustWrite(t, api.Command{}, "", api.ErrArg)
	for op := range 300 {
		mustAgreeOnCommand(t, api.Command{Op: op})
		mustAgreeOnCommand(t, api.Command{Op: -op})
	}
}

// TestAllBytes: keys and values of any bytes.
func TestAllBytes(t *testing.T) {
	for b := range 256 {
		one := string([]byte{byte(b)})
		mustMatch(t, put(9, 8, one, one+one), "\x09\x08\x01\x01"+one+"\x02"+one+one)
		mustMatch(t, del(9, 8, one+one), "\x09\x08\x02\x02"+one+one+"\x00")
	}
	for _, c := range sampleCommands() {
		mustMatch(t, c, spelled(c))
	}
}
