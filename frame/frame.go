// Package frame is layer 1: see shared/doc/01-frame.md.
package frame

import "transhipment/api"

const (
	maxNumber   = 1<<62 - 1
	mostDigits  = 9          // to the base 128; an int holds that many, whatever they are
	polynomial  = 3988292384 // of CRC-32, its highest power lowest
	checkBorder = 1<<32 - 1  // what a check begins as, and is xored with at the end
)

// Number is a number's bytes.
func Number(n int) (string, api.Errno) {
	if n < 0 || n > maxNumber {
		return "", api.ErrArg
	}
	var digits []byte
	for n >= 128 {
		digits = append(digits, byte(n%128+128))
		n /= 128
	}
	return string(append(digits, byte(n))), api.OK
}

// Read is the number that a text begins with, and how many bytes it has.
func Read(s string) (int, int, api.Errno) {
	n := 0
	for i := 0; i < len(s) && i < mostDigits; i++ {
		digit := int(s[i])
		if digit >= 128 {
			n += (digit - 128) << (7 * i)
			continue
		}
		if digit == 0 && i > 0 { // the number would have fewer bytes, too
			return 0, 0, api.ErrSyntax
		}
		return n + digit<<(7*i), i + 1, api.OK
	}
	if len(s) >= mostDigits {
		return 0, 0, api.ErrLong
	}
	return 0, 0, api.ErrShort
}

// Crc is the check of bytes.
func Crc(s string) uint32 {
	next := newCheck()
	sum := uint32(0) // that of no bytes
	for i := 0; i < len(s); i++ {
		sum = next(s[i])
	}
	return sum
}

// newCheck is a check that goes on: it is handed byte by byte, and answers the check of all so far.
func newCheck() func(byte) uint32 {
	rest := uint32(checkBorder)
	return func(b byte) uint32 {
		rest ^= uint32(b)
		for range 8 {
			low := rest & 1
			rest >>= 1
			if low == 1 {
				rest ^= polynomial
			}
		}
		return rest ^ checkBorder
	}
}

// Bind is texts, bound.
func Bind(parts ...string) (string, api.Errno) {
	if len(parts) > api.MaxParts {
		return "", api.ErrLong
	}
	var bound []byte
	for _, part := range parts {
		if len(part) > api.MaxText {
			return "", api.ErrLong
		}
		size, _ := Number(len(part)) // no length is too great for it
		bound = append(bound, size...)
		bound = append(bound, part...)
	}
	return string(bound), api.OK
}

// Loose is the texts that were bound.
func Loose(s string) ([]string, api.Errno) {
	var parts []string
	for len(s) > 0 {
		size, used, e := Read(s)
		if e != api.OK {
			return nil, e
		}
		if size > api.MaxText || len(parts) == api.MaxParts {
			return nil, api.ErrLong
		}
		s = s[used:]
		if size > len(s) {
			return nil, api.ErrShort
		}
		parts = append(parts, s[:size])
		s = s[size:]
	}
	return parts, api.OK
}
