package seal

import (
	"crypto/sha256"
	"encoding/hex"
	"math/big"
	"math/rand"
	"strings"
	"testing"
)

// repeated is a byte, so many times.
func repeated(b byte, times int) string { return strings.Repeat(string([]byte{b}), times) }

// randomText is a text of bytes of any kind, at the most so long.
func randomText(r *rand.Rand, most int) string {
	b := make([]byte, r.Intn(most+1))
	r.Read(b)
	return string(b)
}

// trueSum is the sum, as another program has it.
func trueSum(s string) string {
	sum := sha256.Sum256([]byte(s))
	return string(sum[:])
}

// primes are the first ones.
func primes(many int) []int64 {
	var found []int64
	for n := int64(2); len(found) < many; n++ {
		if big.NewInt(n).ProbablyPrime(10) {
			found = append(found, n)
		}
	}
	return found
}

// isFraction tells whether bits are the first 32 behind the point of n's root of that degree, by whole numbers alone.
func isFraction(n int64, degree int64, bits uint32) bool {
	whole := int64(0)
	for power(big.NewInt(whole+1), degree).Cmp(big.NewInt(n)) <= 0 {
		whole++
	}
	root := big.NewInt(whole<<32 + int64(bits))
	above := new(big.Int).Add(root, big.NewInt(1))
	goal := new(big.Int).Lsh(big.NewInt(n), uint(32*degree))
	return power(root, degree).Cmp(goal) <= 0 && power(above, degree).Cmp(goal) > 0
}

func power(x *big.Int, degree int64) *big.Int { return new(big.Int).Exp(x, big.NewInt(degree), nil) }

// P2.1, way constant-table: the constants are the roots' first bits behind the point.
func TestConstants(t *testing.T) {
	for i, p := range primes(len(begins)) {
		if !isFraction(p, 2, begins[i]) {
			t.Errorf("H[%d] is %08x", i, begins[i])
		}
	}
	for i, p := range primes(len(steps)) {
		if !isFraction(p, 3, steps[i]) {
			t.Errorf("K[%d] is %08x", i, steps[i])
		}
	}
}

// P2.1: sums that are known.
func TestSum(t *testing.T) {
	for s, want := range map[string]string{
		"":    "e3b0c44298fc1c149afbf4c8996fb92427ae41e4649b934ca495991b7852b855",
		"abc": "ba7816bf8f01cfea414140de5dae2223b00361a396177a9cb410ff61f20015ad",
		"abcdbcdecdefdefgefghfghighijhijkijkljklmklmnlmnomnopnopq": "248d6a61d20638b8e5c026930c3e6039a33ce45964ff2167f6ecedd419db06c1",
		repeated('a', 1000000): "cdc76e5c9914fb9281a1c7e284d73e67f1809a48a497200e046d39ccc7112cd0",
	} {
		if got := hex.EncodeToString([]byte(Sum(s))); got != want {
			t.Errorf("the sum of %d bytes is %s, not %s", len(s), got, want)
		}
	}
}

// P2.1: each length about a block's edges, of bytes of several kinds.
func TestSumOfLengths(t *testing.T) {
	r := rand.New(rand.NewSource(1))
	for size := range 400 {
		b := make([]byte, size)
		r.Read(b)
		for _, s := range []string{string(b), repeated(0, size), repeated(128, size), repeated(255, size)} {
			if got, want := Sum(s), trueSum(s); got != want {
				t.Fatalf("the sum of %x is %x, not %x", s, got, want)
			}
		}
	}
}

// P2.1: texts whose number of bits takes one byte to four.
func TestSumOfLongTexts(t *testing.T) {
	for _, size := range []int{31, 32, 8191, 8192, 1<<21 - 1, 1 << 21, 1<<21 + 55, 1<<21 + 56} {
		s := repeated('x', size)
		if got, want := Sum(s), trueSum(s); got != want {
			t.Errorf("the sum of %d bytes is %x, not %x", size, got, want)
		}
	}
}

// P2.1: how many bits there are stands in 8 bytes, of texts too long to be summed here as well.
func TestEnding(t *testing.T) {
	for _, c := range []struct {
		rest string
		size int
		want string
	}{
		{"", 0, "\x80" + repeated(0, 55) + repeated(0, 8)},
		{"ab", 2, "ab\x80" + repeated(0, 53) + repeated(0, 7) + "\x10"},
		{repeated('a', 55), 55, repeated('a', 55) + "\x80" + repeated(0, 6) + "\x01\xb8"},
		{repeated('a', 56), 56, repeated('a', 56) + "\x80" + repeated(0, 63) + repeated(0, 6) + "\x01\xc0"},
		{repeated('a', 63), 127, repeated('a', 63) + "\x80" + repeated(0, 56) + repeated(0, 6) + "\x03\xf8"},
		{"", 1 << 31, "\x80" + repeated(0, 55) + "\x00\x00\x00\x04\x00\x00\x00\x00"},
		{"", 0x0102030405060708 / 8, "\x80" + repeated(0, 55) + "\x01\x02\x03\x04\x05\x06\x07\x08"},
	} {
		if got := ending(c.rest, c.size); got != c.want {
			t.Errorf("the ending of %q, of %d bytes, is %x, not %x", c.rest, c.size, got, c.want)
		}
	}
}

// P2.1: the mark is the sum's first 8 bytes, in digits.
func TestMark(t *testing.T) {
	for s, want := range map[string]string{
		"":    "e3b0c44298fc1c14",
		"abc": "ba7816bf8f01cfea",
	} {
		if got := Mark(s); got != want {
			t.Errorf("the mark of %q is %s, not %s", s, got, want)
		}
	}
	r := rand.New(rand.NewSource(2))
	for range 300 {
		s := randomText(r, 200)
		if got, want := Mark(s), hex.EncodeToString([]byte(trueSum(s)[:8])); got != want {
			t.Fatalf("the mark of %x is %s, not %s", s, got, want)
		}
	}
}

// R1: a sum hangs on its text alone: the tables are as they were behind each call.
func TestSumKeepsNothing(t *testing.T) {
	h, k := begins, steps
	for range 3 {
		for _, s := range []string{"abc", "", repeated('z', 200)} {
			if got, want := Sum(s), trueSum(s); got != want {
				t.Fatalf("the sum of %q is %x, not %x", s, got, want)
			}
		}
	}
	if begins != h || steps != k {
		t.Error("a table is another one")
	}
}
