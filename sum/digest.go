package sum

import "math/bits"

// block is how many bytes of a message are mixed in at once.
const block = 64

// start has the first 32 bits of the fractions of the square roots of the first 8 primes.
var start = [8]uint32{
	0x6a09e667, 0xbb67ae85, 0x3c6ef372, 0xa54ff53a,
	0x510e527f, 0x9b05688c, 0x1f83d9ab, 0x5be0cd19,
}

// rounds has the first 32 bits of the fractions of the cube roots of the first 64 primes.
var rounds = [64]uint32{
	0x428a2f98, 0x71374491, 0xb5c0fbcf, 0xe9b5dba5, 0x3956c25b, 0x59f111f1, 0x923f82a4, 0xab1c5ed5,
	0xd807aa98, 0x12835b01, 0x243185be, 0x550c7dc3, 0x72be5d74, 0x80deb1fe, 0x9bdc06a7, 0xc19bf174,
	0xe49b69c1, 0xefbe4786, 0x0fc19dc6, 0x240ca1cc, 0x2de92c6f, 0x4a7484aa, 0x5cb0a9dc, 0x76f988da,
	0x983e5152, 0xa831c66d, 0xb00327c8, 0xbf597fc7, 0xc6e00bf3, 0xd5a79147, 0x06ca6351, 0x14292967,
	0x27b70a85, 0x2e1b2138, 0x4d2c6dfc, 0x53380d13, 0x650a7354, 0x766a0abb, 0x81c2c92e, 0x92722c85,
	0xa2bfe8a1, 0xa81a664b, 0xc24b8b70, 0xc76c51a3, 0xd192e819, 0xd6990624, 0xf40e3585, 0x106aa070,
	0x19a4c116, 0x1e376c08, 0x2748774c, 0x34b0bcb5, 0x391c0cb3, 0x4ed8aa4a, 0x5b9cca4f, 0x682e6ff3,
	0x748f82ee, 0x78a5636f, 0x84c87814, 0x8cc70208, 0x90befffa, 0xa4506ceb, 0xbef9a3f7, 0xc67178f2,
}

// pad makes whole blocks of a message's last bytes: them, a bit of 1, noughts, and the length of all in bits.
func pad(last []byte, length int) []byte {
	size := block
	if len(last)+1+8 > block {
		size = 2 * block
	}
	tail := make([]byte, size)
	copy(tail, last)
	tail[len(last)] = 0x80
	count := uint64(length) * 8
	for i := range 8 {
		tail[size-1-i] = byte(count >> (8 * i))
	}
	return tail
}

// mix takes one block into the state.
func mix(state [8]uint32, b []byte) [8]uint32 {
	words := spread(b)
	// Eight plain variables, not a list: that runs nearly four times as fast.
	p, q, r, s, t, u, v, w := state[0], state[1], state[2], state[3], state[4], state[5], state[6], state[7]
	for i, word := range words {
		great := bits.RotateLeft32(t, -6) ^ bits.RotateLeft32(t, -11) ^ bits.RotateLeft32(t, -25)
		choice := t&u ^ ^t&v
		one := w + great + choice + rounds[i] + word
		small := bits.RotateLeft32(p, -2) ^ bits.RotateLeft32(p, -13) ^ bits.RotateLeft32(p, -22)
		most := p&q ^ p&r ^ q&r
		p, q, r, s, t, u, v, w = one+small+most, p, q, r, s+one, t, u, v
	}
	for i, word := range [8]uint32{p, q, r, s, t, u, v, w} {
		state[i] += word
	}
	return state
}

// spread makes of the 16 words of a block one word for each round.
func spread(b []byte) [64]uint32 {
	var words [64]uint32
	for i := range 16 {
		words[i] = uint32(b[4*i])<<24 | uint32(b[4*i+1])<<16 | uint32(b[4*i+2])<<8 | uint32(b[4*i+3])
	}
	for i := 16; i < len(words); i++ {
		x, y := words[i-15], words[i-2]
		small := bits.RotateLeft32(x, -7) ^ bits.RotateLeft32(x, -18) ^ x>>3
		great := bits.RotateLeft32(y, -17) ^ bits.RotateLeft32(y, -19) ^ y>>10
		words[i] = words[i-16] + small + words[i-7] + great
	}
	return words
}

// spell writes the state as bytes, the greatest of each word first.
func spell(state [8]uint32) [32]byte {
	var out [32]byte
	for i, word := range state {
		for j := range 4 {
			out[4*i+j] = byte(word >> (24 - 8*j))
		}
	}
	return out
}
