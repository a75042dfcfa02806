package sha

import "math/bits"

// blockSize is how many bytes are mixed at once; countSize is how many tell, at the end, how many bits there were.
const (
	blockSize = 64
	countSize = 8
)

// rounds is the rounds' numbers.
var rounds = [64]uint32{
	0x428a2f98, 0x71374491, 0xb5c0fbcf, 0xe9b5dba5, 0x3956c25b, 0x59f111f1, 0x923f82a4, 0xab1c5ed5,
	0xd807aa98, 0x12835b01, 0x243185be, 0x550c7dc3, 0x72be5d74, 0x80deb1fe, 0x9bdc06a7, 0xc19bf174,
	0xe49b69c1, 0xefbe4786, 0x0fc19dc6, 0x240ca1cc, 0x2de92c6f, 0x4a7484aa, 0x5cb0a9dc, 0x76f988da,
	0x983e5152, 0xa831c66d, 0xb00327c8, 0xbf597fc7, 0xc6e00bf3, 0xd5a79147, 0x06ca6351, 0x14292967,
	0x27b70a85, 0x2e1b2138, 0x4d2c6dfc, 0x53380d13, 0x650a7354, 0x766a0abb, 0x81c2c92e, 0x92722c85,
	0xa2bfe8a1, 0xa81a664b, 0xc24b8b70, 0xc76c51a3, 0xd192e819, 0xd6990624, 0xf40e3585, 0x106aa070,
	0x19a4c116, 0x1e376c08, 0x2748774c, 0x34b0bcb5, 0x391c0cb3, 0x4ed8aa4a, 0x5b9cca4f, 0x682e6ff3,
	0x748f82ee, 0x78a5636f, 0x84c87814, 0x8cc70208, 0x90befffa, 0xa4506ceb, 0xbef9a3f7, 0xc67178f2,
}

// mix is the state behind one block more. Its letters are those of FIPS 180-4.
func mix(state [8]uint32, block [blockSize]byte) [8]uint32 {
	words := spread(block)
	a, b, c, d := state[0], state[1], state[2], state[3]
	e, f, g, h := state[4], state[5], state[6], state[7]
	for i, word := range words {
		choice := e&f ^ ^e&g
		majority := a&b ^ a&c ^ b&c
		one := h + turned(e, 6, 11, 25) + choice + rounds[i] + word
		two := turned(a, 2, 13, 22) + majority
		a, b, c, d, e, f, g, h = one+two, a, b, c, d+one, e, f, g
	}
	mixed := [8]uint32{a, b, c, d, e, f, g, h}
	for i, word := range state {
		mixed[i] += word
	}
	return mixed
}

// spread is a block's words, the highest byte first, and those that are made of them, one for each round.
func spread(block [blockSize]byte) [64]uint32 {
	var words [64]uint32
	for i := range 16 {
		b := block[4*i : 4*i+4]
		words[i] = uint32(b[0])<<24 | uint32(b[1])<<16 | uint32(b[2])<<8 | uint32(b[3])
	}
	for i := 16; i < len(words); i++ {
		early, late := words[i-15], words[i-2]
		words[i] = words[i-16] + words[i-7] +
			(bits.RotateLeft32(early, -7) ^ bits.RotateLeft32(early, -18) ^ early>>3) +
			(bits.RotateLeft32(late, -17) ^ bits.RotateLeft32(late, -19) ^ late>>10)
	}
	return words
}

// turned is a word that is turned right three times, each by so many bits, and what these have unlike.
func turned(word uint32, one, two, three int) uint32 {
	return bits.RotateLeft32(word, -one) ^ bits.RotateLeft32(word, -two) ^ bits.RotateLeft32(word, -three)
}
