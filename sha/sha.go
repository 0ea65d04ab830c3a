// Package sha: hashes. See doc/01-sha.md.
package sha

import (
	"math/bits"

	"lattice/api"
)

const (
	chunkSize  = 64 // bytes that are stirred in at once
	wordSize   = 4  // bytes of a word
	lengthSize = 8  // bytes of the length behind a text
	endMark    = 0x80
	digits     = "0123456789abcdef"
)

type state [8]uint32

type chunk [chunkSize]byte

// The first 32 bits of the fractional parts of the square roots of the first eight primes.
var firstState = state{
	0x6a09e667, 0xbb67ae85, 0x3c6ef372, 0xa54ff53a, 0x510e527f, 0x9b05688c, 0x1f83d9ab, 0x5be0cd19,
}

// The first 32 bits of the fractional parts of the cube roots of the first 64 primes.
var roundWords = [64]uint32{
	0x428a2f98, 0x71374491, 0xb5c0fbcf, 0xe9b5dba5, 0x3956c25b, 0x59f111f1, 0x923f82a4, 0xab1c5ed5,
	0xd807aa98, 0x12835b01, 0x243185be, 0x550c7dc3, 0x72be5d74, 0x80deb1fe, 0x9bdc06a7, 0xc19bf174,
	0xe49b69c1, 0xefbe4786, 0x0fc19dc6, 0x240ca1cc, 0x2de92c6f, 0x4a7484aa, 0x5cb0a9dc, 0x76f988da,
	0x983e5152, 0xa831c66d, 0xb00327c8, 0xbf597fc7, 0xc6e00bf3, 0xd5a79147, 0x06ca6351, 0x14292967,
	0x27b70a85, 0x2e1b2138, 0x4d2c6dfc, 0x53380d13, 0x650a7354, 0x766a0abb, 0x81c2c92e, 0x92722c85,
	0xa2bfe8a1, 0xa81a664b, 0xc24b8b70, 0xc76c51a3, 0xd192e819, 0xd6990624, 0xf40e3585, 0x106aa070,
	0x19a4c116, 0x1e376c08, 0x2748774c, 0x34b0bcb5, 0x391c0cb3, 0x4ed8aa4a, 0x5b9cca4f, 0x682e6ff3,
	0x748f82ee, 0x78a5636f, 0x84c87814, 0x8cc70208, 0x90befffa, 0xa4506ceb, 0xbef9a3f7, 0xc67178f2,
}

// Sum is SHA-256.
func Sum(b []byte) api.Id {
	whole := len(b) - len(b)%chunkSize
	s := absorb(firstState, b[:whole])
	end, n := ending(b[whole:], len(b))
	return idOf(absorb(s, end[:n]))
}

// Pair is the hash of two rows, one behind the other.
func Pair(a, b []byte) api.Id {
	// A row of its own: to append to a would write to its spare room.
	both := make([]byte, len(a)+len(b))
	copy(both, a)
	copy(both[len(a):], b)
	return Sum(both)
}

// Text is an id in hexadecimal digits.
func Text(id api.Id) string {
	var t [2 * len(id)]byte
	for i, b := range id {
		t[2*i] = digits[b>>4]
		t[2*i+1] = digits[b&15]
	}
	return string(t[:])
}

// absorb stirs in bytes whose count is a multiple of chunkSize.
func absorb(s state, b []byte) state {
	var c chunk
	for at := 0; at < len(b); at += chunkSize {
		copy(c[:], b[at:])
		s = stir(s, c)
	}
	return s
}

// ending is what is left of a text of size bytes, filled up to whole chunks, and how many bytes that makes.
// There are two chunks where the mark and the length do not fit behind the rest.
func ending(rest []byte, size int) (end [2 * chunkSize]byte, n int) {
	n = chunkSize
	if len(rest)+1+lengthSize > chunkSize {
		n = 2 * chunkSize
	}
	copy(end[:], rest)
	end[len(rest)] = endMark
	length := uint64(size) * 8
	for i := range lengthSize {
		end[n-1-i] = byte(length >> (8 * i))
	}
	return end, n
}

func stir(s state, block chunk) state {
	w := schedule(block)
	a, b, c, d, e, f, g, h := s[0], s[1], s[2], s[3], s[4], s[5], s[6], s[7]
	for t := range w {
		p := h + bigSigma1(e) + ((e & f) ^ (^e & g)) + roundWords[t] + w[t]
		q := bigSigma0(a) + ((a & b) ^ (a & c) ^ (b & c))
		h, g, f, e, d, c, b, a = g, f, e, d+p, c, b, a, p+q
	}
	return state{s[0] + a, s[1] + b, s[2] + c, s[3] + d, s[4] + e, s[5] + f, s[6] + g, s[7] + h}
}

// schedule is the words that the rounds take one by one.
func schedule(block chunk) [64]uint32 {
	var w [64]uint32
	for t := range chunkSize / wordSize {
		at := t * wordSize
		w[t] = uint32(block[at])<<24 | uint32(block[at+1])<<16 | uint32(block[at+2])<<8 | uint32(block[at+3])
	}
	for t := chunkSize / wordSize; t < len(w); t++ {
		w[t] = smallSigma1(w[t-2]) + w[t-7] + smallSigma0(w[t-15]) + w[t-16]
	}
	return w
}

func idOf(s state) api.Id {
	var id api.Id
	for i, x := range s {
		word := [wordSize]byte{byte(x >> 24), byte(x >> 16), byte(x >> 8), byte(x)}
		copy(id[i*wordSize:], word[:])
	}
	return id
}

func smallSigma0(x uint32) uint32 { return turn(x, 7) ^ turn(x, 18) ^ x>>3 }

func smallSigma1(x uint32) uint32 { return turn(x, 17) ^ turn(x, 19) ^ x>>10 }

func bigSigma0(x uint32) uint32 { return turn(x, 2) ^ turn(x, 13) ^ turn(x, 22) }

func bigSigma1(x uint32) uint32 { return turn(x, 6) ^ turn(x, 11) ^ turn(x, 25) }

// turn rotates to the right.
func turn(x uint32, n int) uint32 { return bits.RotateLeft32(x, -n) }
