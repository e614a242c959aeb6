package seal

import "math/bits"

const (
	blockSize = 64
	countSize = 8   // bytes that tell how many bits a text has
	endMark   = 128 // the byte behind a text
	wordSize  = 4
	markSize  = 8
)

// begins are what the words go round from: the first 32 bits behind the point of the square roots of the primes 2 to 19.
var begins = [8]uint32{
	0x6a09e667, 0xbb67ae85, 0x3c6ef372, 0xa54ff53a, 0x510e527f, 0x9b05688c, 0x1f83d9ab, 0x5be0cd19,
}

// steps are added one a round: the first 32 bits behind the point of the cube roots of the primes 2 to 311.
var steps = [64]uint32{
	0x428a2f98, 0x71374491, 0xb5c0fbcf, 0xe9b5dba5, 0x3956c25b, 0x59f111f1, 0x923f82a4, 0xab1c5ed5,
	0xd807aa98, 0x12835b01, 0x243185be, 0x550c7dc3, 0x72be5d74, 0x80deb1fe, 0x9bdc06a7, 0xc19bf174,
	0xe49b69c1, 0xefbe4786, 0x0fc19dc6, 0x240ca1cc, 0x2de92c6f, 0x4a7484aa, 0x5cb0a9dc, 0x76f988da,
	0x983e5152, 0xa831c66d, 0xb00327c8, 0xbf597fc7, 0xc6e00bf3, 0xd5a79147, 0x06ca6351, 0x14292967,
	0x27b70a85, 0x2e1b2138, 0x4d2c6dfc, 0x53380d13, 0x650a7354, 0x766a0abb, 0x81c2c92e, 0x92722c85,
	0xa2bfe8a1, 0xa81a664b, 0xc24b8b70, 0xc76c51a3, 0xd192e819, 0xd6990624, 0xf40e3585, 0x106aa070,
	0x19a4c116, 0x1e376c08, 0x2748774c, 0x34b0bcb5, 0x391c0cb3, 0x4ed8aa4a, 0x5b9cca4f, 0x682e6ff3,
	0x748f82ee, 0x78a5636f, 0x84c87814, 0x8cc70208, 0x90befffa, 0xa4506ceb, 0xbef9a3f7, 0xc67178f2,
}

// Sum is the sum of bytes.
func Sum(s string) string {
	whole := len(s) - len(s)%blockSize // the text's own blocks are read where they stand: it may be long
	words := mixAll(begins, s[:whole])
	words = mixAll(words, ending(s[whole:], len(s)))
	var sum []byte
	for _, word := range words {
		sum = appendWord(sum, word)
	}
	return string(sum)
}

// Mark is the first 8 bytes of a text's sum, in digits to the base 16.
func Mark(s string) string {
	const digits = "0123456789abcdef"
	sum := Sum(s)
	var mark []byte
	for i := range markSize {
		mark = append(mark, digits[sum[i]>>4], digits[sum[i]&15])
	}
	return string(mark)
}

// ending is what is behind a text's whole blocks, filled up to whole blocks; size is how many bytes all of the text has.
func ending(rest string, size int) string {
	tail := append([]byte(rest), endMark)
	for (len(tail)+countSize)%blockSize != 0 {
		tail = append(tail, 0)
	}
	count := uint64(size) * 8
	tail = appendWord(tail, uint32(count>>32))
	return string(appendWord(tail, uint32(count)))
}

// mixAll is the words behind all blocks.
func mixAll(words [8]uint32, blocks string) [8]uint32 {
	for ; len(blocks) > 0; blocks = blocks[blockSize:] {
		words = mix(words, blocks[:blockSize])
	}
	return words
}

// mix is the words behind a block.
func mix(words [8]uint32, block string) [8]uint32 {
	round := words // a to h
	for t, w := range spread(block) {
		a, b, c := round[0], round[1], round[2]
		e, f, g, h := round[4], round[5], round[6], round[7]
		t1 := h + great1(e) + (e&f ^ ^e&g) + steps[t] + w
		t2 := great0(a) + (a&b ^ a&c ^ b&c)
		copy(round[1:], round[:7]) // each word comes to be the next one
		round[4] += t1
		round[0] = t1 + t2
	}
	for i := range words {
		words[i] += round[i]
	}
	return words
}

// spread is a block's 16 words, and the 48 that follow from them.
func spread(block string) [64]uint32 {
	var w [64]uint32
	for t := range w {
		if t < 16 {
			w[t] = readWord(block[wordSize*t:])
		} else {
			w[t] = small1(w[t-2]) + w[t-7] + small0(w[t-15]) + w[t-16]
		}
	}
	return w
}

func small0(x uint32) uint32 { return turn(x, 7) ^ turn(x, 18) ^ x>>3 }

func small1(x uint32) uint32 { return turn(x, 17) ^ turn(x, 19) ^ x>>10 }

func great0(x uint32) uint32 { return turn(x, 2) ^ turn(x, 13) ^ turn(x, 22) }

func great1(x uint32) uint32 { return turn(x, 6) ^ turn(x, 11) ^ turn(x, 25) }

// turn is x, turned right by n.
func turn(x uint32, n int) uint32 { return bits.RotateLeft32(x, -n) }

// readWord is the word that a text begins with, its highest byte first.
func readWord(s string) uint32 {
	word := uint32(0)
	for i := range wordSize {
		word = word<<8 | uint32(s[i])
	}
	return word
}

// appendWord has a word behind the bytes, its highest byte first.
func appendWord(b []byte, word uint32) []byte {
	return append(b, byte(word>>24), byte(word>>16), byte(word>>8), byte(word))
}
