// Package digest: the digest of a text (SHA-256).
package digest

import (
	"math/bits"
	"strings"

	"ward/number"
)

const blockSize = 64

// roundNumbers: the first 32 bits of the fractional parts of the cube roots of the first 64 primes.
var roundNumbers = [64]uint32{
	0x428a2f98, 0x71374491, 0xb5c0fbcf, 0xe9b5dba5, 0x3956c25b, 0x59f111f1, 0x923f82a4, 0xab1c5ed5,
	0xd807aa98, 0x12835b01, 0x243185be, 0x550c7dc3, 0x72be5d74, 0x80deb1fe, 0x9bdc06a7, 0xc19bf174,
	0xe49b69c1, 0xefbe4786, 0x0fc19dc6, 0x240ca1cc, 0x2de92c6f, 0x4a7484aa, 0x5cb0a9dc, 0x76f988da,
	0x983e5152, 0xa831c66d, 0xb00327c8, 0xbf597fc7, 0xc6e00bf3, 0xd5a79147, 0x06ca6351, 0x14292967,
	0x27b70a85, 0x2e1b2138, 0x4d2c6dfc, 0x53380d13, 0x650a7354, 0x766a0abb, 0x81c2c92e, 0x92722c85,
	0xa2bfe8a1, 0xa81a664b, 0xc24b8b70, 0xc76c51a3, 0xd192e819, 0xd6990624, 0xf40e3585, 0x106aa070,
	0x19a4c116, 0x1e376c08, 0x2748774c, 0x34b0bcb5, 0x391c0cb3, 0x4ed8aa4a, 0x5b9cca4f, 0x682e6ff3,
	0x748f82ee, 0x78a5636f, 0x84c87814, 0x8cc70208, 0x90befffa, 0xa4506ceb, 0xbef9a3f7, 0xc67178f2,
}

// Of gives the digest of a text.
func Of(text string) [32]byte {
	// Only the last bytes are joined to the padding, so that a long text is not copied.
	whole := len(text) - len(text)%blockSize
	state := stirAll(start(), text[:whole])
	return join(stirAll(state, text[whole:]+padding(len(text))))
}

// start: the first 32 bits of the fractional parts of the square roots of the first eight primes.
func start() [8]uint32 {
	return [8]uint32{
		0x6a09e667, 0xbb67ae85, 0x3c6ef372, 0xa54ff53a, 0x510e527f, 0x9b05688c, 0x1f83d9ab, 0x5be0cd19,
	}
}

// padding is what is put behind a text of that length.
func padding(length int) string {
	zeros := (2*blockSize - 9 - length%blockSize) % blockSize
	inBits := uint64(length) * 8
	end := number.Append(nil, uint32(inBits>>32))
	end = number.Append(end, uint32(inBits))
	return "\x80" + strings.Repeat("\x00", zeros) + string(end)
}

// stirAll stirs blocks into the state; the text is made of whole ones.
func stirAll(state [8]uint32, text string) [8]uint32 {
	for at := 0; at < len(text); at += blockSize {
		state = stir(state, text[at:at+blockSize])
	}
	return state
}

// stir stirs one block into the state.
func stir(state [8]uint32, block string) [8]uint32 {
	words := spread(block)
	a, b, c, d, e, f, g, h := state[0], state[1], state[2], state[3], state[4], state[5], state[6], state[7]
	for t, word := range words {
		first := h + bigSigma1(e) + choose(e, f, g) + roundNumbers[t] + word
		second := bigSigma0(a) + majority(a, b, c)
		h, g, f = g, f, e
		e = d + first
		d, c, b = c, b, a
		a = first + second
	}
	for i, n := range [8]uint32{a, b, c, d, e, f, g, h} {
		state[i] += n
	}
	return state
}

// spread makes the 64 numbers W of a block.
func spread(block string) [64]uint32 {
	var words [64]uint32
	for t := range 16 {
		words[t] = number.At(block, 4*t)
	}
	for t := 16; t < 64; t++ {
		words[t] = smallSigma1(words[t-2]) + words[t-7] + smallSigma0(words[t-15]) + words[t-16]
	}
	return words
}

// join lays the state's numbers end to end.
func join(state [8]uint32) [32]byte {
	var text []byte
	for _, n := range state {
		text = number.Append(text, n)
	}
	return [32]byte(text)
}

func turn(x uint32, right int) uint32 { return bits.RotateLeft32(x, -right) }

func smallSigma0(x uint32) uint32 { return turn(x, 7) ^ turn(x, 18) ^ x>>3 }

func smallSigma1(x uint32) uint32 { return turn(x, 17) ^ turn(x, 19) ^ x>>10 }

func bigSigma0(x uint32) uint32 { return turn(x, 2) ^ turn(x, 13) ^ turn(x, 22) }

func bigSigma1(x uint32) uint32 { return turn(x, 6) ^ turn(x, 11) ^ turn(x, 25) }

func choose(x, y, z uint32) uint32 { return x&y ^ ^x&z }

func majority(x, y, z uint32) uint32 { return x&y ^ x&z ^ y&z }
