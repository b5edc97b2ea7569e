// Package sha256 is layer 1: see shared/doc/01-sha256.md.
package sha256

import (
	"math/bits"

	"modcert/api"
)

const (
	blockSize  = 64
	lengthSize = 8
	digits     = "0123456789abcdef"
)

// Hash is the state of a digest that is being computed.
type Hash struct {
	words  [8]uint32
	block  [blockSize]byte // begins with the bytes that no whole block contains yet
	length uint64          // all bytes that were written
}

// Sum returns the SHA-256 digest of a string, 32 bytes.
func Sum(s string) string {
	h := New()
	h.Write(s)
	return h.Sum()
}

// Tagged returns the digest of a tag and some parts, which cannot be confused with other ones.
func Tagged(tag string, parts ...string) string {
	h := New()
	add := func(s string) {
		var size [lengthSize]byte
		putLength(size[:], uint64(len(s)))
		h.Write(string(size[:]))
		h.Write(s)
	}
	add(tag)
	for _, part := range parts {
		add(part)
	}
	return h.Sum()
}

// Hex returns the hexadecimal digits of a string.
func Hex(s string) string {
	text := make([]byte, 0, 2*len(s))
	for i := range len(s) {
		text = append(text, digits[s[i]>>4], digits[s[i]&15])
	}
	return string(text)
}

// Parse returns the digest with 64 hexadecimal digits.
func Parse(s string) (string, api.Errno) {
	if len(s) != 2*api.DigestSize {
		return "", api.ErrSyntax
	}
	var result [api.DigestSize]byte
	for i := range len(s) {
		value, ok := digitValue(s[i])
		if !ok {
			return "", api.ErrSyntax
		}
		result[i/2] = result[i/2]<<4 | value
	}
	return string(result[:]), api.OK
}

func digitValue(c byte) (byte, bool) {
	switch {
	case '0' <= c && c <= '9':
		return c - '0', true
	case 'a' <= c && c <= 'f':
		return c - 'a' + 10, true
	}
	return 0, false
}

// New returns a state to which nothing is written.
func New() *Hash {
	return &Hash{words: [8]uint32{
		0x6a09e667, 0xbb67ae85, 0x3c6ef372, 0xa54ff53a,
		0x510e527f, 0x9b05688c, 0x1f83d9ab, 0x5be0cd19,
	}}
}

// Write adds bytes.
func (h *Hash) Write(s string) {
	for len(s) > 0 {
		used := h.length % blockSize
		n := copy(h.block[used:], s)
		s = s[n:]
		h.length += uint64(n)
		if h.length%blockSize == 0 {
			h.words = compress(h.words, &h.block)
		}
	}
}

// Sum returns the digest of all bytes that were written.
func (h *Hash) Sum() string {
	last := *h // the padding must not become part of what was written
	used := h.length % blockSize
	last.block[used] = 0x80
	clear(last.block[used+1:])
	if used+1 > blockSize-lengthSize {
		last.words = compress(last.words, &last.block)
		clear(last.block[:])
	}
	putLength(last.block[blockSize-lengthSize:], 8*h.length)
	return digest(compress(last.words, &last.block))
}

// Clone returns an independent state.
func (h *Hash) Clone() *Hash {
	clone := *h
	return &clone
}

// putLength fills the 8 bytes of a list with a number, most significant first.
func putLength(to []byte, n uint64) {
	for i := range lengthSize {
		to[i] = byte(n >> (8 * (lengthSize - 1 - i)))
	}
}

func digest(words [8]uint32) string {
	var result [api.DigestSize]byte
	for i := range result {
		result[i] = byte(words[i/4] >> (24 - i%4*8))
	}
	return string(result[:])
}

// rotations returns the function that combines three rotations of a word to the right.
func rotations(first, second, third int) func(x uint32) uint32 {
	return func(x uint32) uint32 {
		return bits.RotateLeft32(x, -first) ^ bits.RotateLeft32(x, -second) ^ bits.RotateLeft32(x, -third)
	}
}

// shifted returns the function that combines two rotations of a word to the right and a shift.
func shifted(first, second, shift int) func(x uint32) uint32 {
	return func(x uint32) uint32 {
		return bits.RotateLeft32(x, -first) ^ bits.RotateLeft32(x, -second) ^ x>>shift
	}
}

// schedule returns the words w0 to w63 of a block.
func schedule(block *[blockSize]byte) [64]uint32 {
	var w [64]uint32
	for i := range 16 {
		b := block[4*i : 4*i+4]
		w[i] = uint32(b[0])<<24 | uint32(b[1])<<16 | uint32(b[2])<<8 | uint32(b[3])
	}
	s0, s1 := shifted(7, 18, 3), shifted(17, 19, 10)
	for i := 16; i < len(w); i++ {
		w[i] = s1(w[i-2]) + w[i-7] + s0(w[i-15]) + w[i-16]
	}
	return w
}

// compress returns the state after a block.
func compress(state [8]uint32, block *[blockSize]byte) [8]uint32 {
	k, w := constants(), schedule(block)
	sum0, sum1 := rotations(2, 13, 22), rotations(6, 11, 25)
	a, b, c, d, e, f, g, h := state[0], state[1], state[2], state[3], state[4], state[5], state[6], state[7]
	for i := range w {
		t1 := h + sum1(e) + (e&f ^ ^e&g) + k[i] + w[i]
		t2 := sum0(a) + (a&b ^ a&c ^ b&c)
		h, g, f, e, d, c, b, a = g, f, e, d+t1, c, b, a, t1+t2
	}
	for i, x := range [8]uint32{a, b, c, d, e, f, g, h} {
		state[i] += x
	}
	return state
}

// constants returns the words k0 to k63.
func constants() [64]uint32 {
	return [64]uint32{
		0x428a2f98, 0x71374491, 0xb5c0fbcf, 0xe9b5dba5, 0x3956c25b, 0x59f111f1, 0x923f82a4, 0xab1c5ed5,
		0xd807aa98, 0x12835b01, 0x243185be, 0x550c7dc3, 0x72be5d74, 0x80deb1fe, 0x9bdc06a7, 0xc19bf174,
		0xe49b69c1, 0xefbe4786, 0x0fc19dc6, 0x240ca1cc, 0x2de92c6f, 0x4a7484aa, 0x5cb0a9dc, 0x76f988da,
		0x983e5152, 0xa831c66d, 0xb00327c8, 0xbf597fc7, 0xc6e00bf3, 0xd5a79147, 0x06ca6351, 0x14292967,
		0x27b70a85, 0x2e1b2138, 0x4d2c6dfc, 0x53380d13, 0x650a7354, 0x766a0abb, 0x81c2c92e, 0x92722c85,
		0xa2bfe8a1, 0xa81a664b, 0xc24b8b70, 0xc76c51a3, 0xd192e819, 0xd6990624, 0xf40e3585, 0x106aa070,
		0x19a4c116, 0x1e376c08, 0x2748774c, 0x34b0bcb5, 0x391c0cb3, 0x4ed8aa4a, 0x5b9cca4f, 0x682e6ff3,
		0x748f82ee, 0x78a5636f, 0x84c87814, 0x8cc70208, 0x90befffa, 0xa4506ceb, 0xbef9a3f7, 0xc67178f2,
	}
}
