// Package sha is layer 1: SHA-256 with access to its state, so that a digest
// can be computed block by block. See shared/doc/01-sha.md.
package sha

import (
	"math/bits"

	"heartwood/api"
)

const (
	blockBytes  = 64
	lengthBytes = 8
	wordBytes   = 4
	longest     = 1 << 50
)

// roundConstants come from the cube roots of the first 64 primes.
var roundConstants = [64]uint32{
	0x428a2f98, 0x71374491, 0xb5c0fbcf, 0xe9b5dba5, 0x3956c25b, 0x59f111f1, 0x923f82a4, 0xab1c5ed5,
	0xd807aa98, 0x12835b01, 0x243185be, 0x550c7dc3, 0x72be5d74, 0x80deb1fe, 0x9bdc06a7, 0xc19bf174,
	0xe49b69c1, 0xefbe4786, 0x0fc19dc6, 0x240ca1cc, 0x2de92c6f, 0x4a7484aa, 0x5cb0a9dc, 0x76f988da,
	0x983e5152, 0xa831c66d, 0xb00327c8, 0xbf597fc7, 0xc6e00bf3, 0xd5a79147, 0x06ca6351, 0x14292967,
	0x27b70a85, 0x2e1b2138, 0x4d2c6dfc, 0x53380d13, 0x650a7354, 0x766a0abb, 0x81c2c92e, 0x92722c85,
	0xa2bfe8a1, 0xa81a664b, 0xc24b8b70, 0xc76c51a3, 0xd192e819, 0xd6990624, 0xf40e3585, 0x106aa070,
	0x19a4c116, 0x1e376c08, 0x2748774c, 0x34b0bcb5, 0x391c0cb3, 0x4ed8aa4a, 0x5b9cca4f, 0x682e6ff3,
	0x748f82ee, 0x78a5636f, 0x84c87814, 0x8cc70208, 0x90befffa, 0xa4506ceb, 0xbef9a3f7, 0xc67178f2,
}

// initialState comes from the square roots of the first eight primes.
var initialState = [8]uint32{
	0x6a09e667, 0xbb67ae85, 0x3c6ef372, 0xa54ff53a, 0x510e527f, 0x9b05688c, 0x1f83d9ab, 0x5be0cd19,
}

// Tail returns what follows n bytes to fill their last block: P1.1.
func Tail(n int) ([]byte, error) {
	// Compared as int64, since the bound does not fit an int of 32 bits.
	if n < 0 || int64(n) > longest {
		return nil, api.ErrArg
	}
	return tail(n), nil
}

// Words returns the 64 words of a block's schedule: P1.1.
func Words(block []byte) ([]uint32, error) {
	if len(block) != blockBytes {
		return nil, api.ErrArg
	}
	words := schedule(block)
	return words[:], nil
}

// Round returns the state v after a round with the constant k and the word w: P1.1.
func Round(v [8]uint32, k, w uint32) [8]uint32 {
	a, b, c, d, e, f, g, h := v[0], v[1], v[2], v[3], v[4], v[5], v[6], v[7]
	t1 := lowerSum(e, f, g, h, k, w)
	t2 := upperSum(a, b, c)
	return [8]uint32{t1 + t2, a, b, c, d + t1, e, f, g}
}

// First returns the initial state: P1.2.
func First() [8]uint32 {
	return initialState
}

// Step returns the state v after the step of a block: P1.2.
func Step(v [8]uint32, block []byte) ([8]uint32, error) {
	if len(block) != blockBytes {
		return [8]uint32{}, api.ErrArg
	}
	return step(v, block), nil
}

// Sum returns the digest of b: P1.2.
func Sum(b []byte) []byte {
	whole := len(b) - len(b)%blockBytes
	v := steps(First(), b[:whole])
	v = steps(v, withTail(b[whole:], len(b)))
	return stateBytes(v)
}

func tail(n int) []byte {
	used := n%blockBytes + 1 + lengthBytes
	zeros := (2*blockBytes - used) % blockBytes
	out := make([]byte, 1+zeros+lengthBytes)
	out[0] = 0x80
	putBig(out[1+zeros:], 8*uint64(n))
	return out
}

// withTail joins the last bytes of n and their tail in new memory: the caller's
// array may go on behind those bytes, and must not be written into.
func withTail(rest []byte, n int) []byte {
	out := make([]byte, 0, 2*blockBytes)
	out = append(out, rest...)
	return append(out, tail(n)...)
}

// steps applies a step for each block; b holds whole blocks only.
func steps(v [8]uint32, b []byte) [8]uint32 {
	for at := 0; at < len(b); at += blockBytes {
		v = step(v, b[at:at+blockBytes])
	}
	return v
}

func step(v [8]uint32, block []byte) [8]uint32 {
	words := schedule(block)
	out := rounds(v, words)
	for i := range out {
		out[i] += v[i]
	}
	return out
}

// rounds does what 64 calls of Round do, with the state in eight variables:
// those stay in registers, and an array would be copied at each round.
func rounds(v [8]uint32, words [64]uint32) [8]uint32 {
	a, b, c, d, e, f, g, h := v[0], v[1], v[2], v[3], v[4], v[5], v[6], v[7]
	for i, w := range words {
		t1 := lowerSum(e, f, g, h, roundConstants[i], w)
		t2 := upperSum(a, b, c)
		a, b, c, d, e, f, g, h = t1+t2, a, b, c, d+t1, e, f, g
	}
	return [8]uint32{a, b, c, d, e, f, g, h}
}

// lowerSum is t1 of a round.
func lowerSum(e, f, g, h, k, w uint32) uint32 {
	return h + rotations(e, 6, 11, 25) + (e&f ^ ^e&g) + k + w
}

// upperSum is t2 of a round.
func upperSum(a, b, c uint32) uint32 {
	return rotations(a, 2, 13, 22) + (a&b ^ a&c ^ b&c)
}

func schedule(block []byte) [64]uint32 {
	var w [64]uint32
	for i := range 16 {
		w[i] = word(block[wordBytes*i:])
	}
	for i := 16; i < len(w); i++ {
		w[i] = w[i-16] + spread(w[i-15], 7, 18, 3) + w[i-7] + spread(w[i-2], 17, 19, 10)
	}
	return w
}

// rotations is the xor of x rotated to the right by three counts.
func rotations(x uint32, i, j, k int) uint32 {
	return bits.RotateLeft32(x, -i) ^ bits.RotateLeft32(x, -j) ^ bits.RotateLeft32(x, -k)
}

// spread is the xor of x rotated to the right by two counts, and shifted to the
// right by a third.
func spread(x uint32, i, j, shift int) uint32 {
	return bits.RotateLeft32(x, -i) ^ bits.RotateLeft32(x, -j) ^ x>>shift
}

func word(b []byte) uint32 {
	return uint32(b[0])<<24 | uint32(b[1])<<16 | uint32(b[2])<<8 | uint32(b[3])
}

// putBig fills out with x in big-endian order.
func putBig(out []byte, x uint64) {
	for i := range out {
		out[i] = byte(x >> (8 * (len(out) - 1 - i)))
	}
}

func stateBytes(v [8]uint32) []byte {
	out := make([]byte, wordBytes*len(v))
	for i, x := range v {
		putBig(out[wordBytes*i:wordBytes*(i+1)], uint64(x))
	}
	return out
}
