package frame

import (
	"hash/crc32"
	"math"
	"math/rand"
	"slices"
	"strings"
	"testing"

	"transhipment/api"
)

const top = 1<<62 - 1 // the greatest number that has bytes

// repeated is a byte, so many times.
func repeated(b byte, times int) string { return strings.Repeat(string([]byte{b}), times) }

// randomText is a text of bytes of any kind, at the most so long.
func randomText(r *rand.Rand, most int) string {
	b := make([]byte, r.Intn(most+1))
	r.Read(b)
	return string(b)
}

// P1.1: Number's bytes, at each length's edges.
func TestNumber(t *testing.T) {
	for _, c := range []struct {
		n    int
		want string
	}{
		{0, "\x00"},
		{1, "\x01"},
		{127, "\x7f"},
		{128, "\x80\x01"},
		{129, "\x81\x01"},
		{255, "\xff\x01"},
		{256, "\x80\x02"},
		{300, "\xac\x02"},
		{16383, "\xff\x7f"},
		{16384, "\x80\x80\x01"},
		{1<<56 - 1, repeated(255, 7) + "\x7f"},
		{1 << 56, repeated(128, 8) + "\x01"},
		{top, repeated(255, 8) + "\x3f"},
	} {
		if s, e := Number(c.n); s != c.want || e != api.OK {
			t.Errorf("Number(%d) is %x, %d, not %x", c.n, s, e, c.want)
		}
	}
}

// P1.1: what has no bytes.
func TestNumberWrong(t *testing.T) {
	for _, n := range []int{-1, -128, math.MinInt, top + 1, math.MaxInt} {
		if s, e := Number(n); s != "" || e != api.ErrArg {
			t.Errorf("Number(%d) is %x, %d", n, s, e)
		}
	}
}

// P1.1: Read takes the text's beginning alone.
func TestRead(t *testing.T) {
	for _, c := range []struct {
		s       string
		n, used int
	}{
		{"\x00", 0, 1},
		{"\x00\x00", 0, 1},
		{"\x00\x80", 0, 1},
		{"\x01", 1, 1},
		{"\x7f", 127, 1},
		{"\x7f\xff", 127, 1},
		{"\x80\x01", 128, 2},
		{"\x80\x80\x01", 16384, 3},
		{"\xac\x02", 300, 2},
		{"\xac\x02\x00", 300, 2},
		{"\x05" + repeated(255, 20), 5, 1},
		{repeated(128, 7) + "\x01", 1 << 49, 8},
		{repeated(128, 8) + "\x01", 1 << 56, 9},
		{repeated(255, 8) + "\x3f", top, 9},
		{repeated(255, 8) + "\x3f\xff\xff", top, 9},
		{repeated(128, 8) + "\x40", 1 << 62, 9}, // no error names what Number does not write
		{repeated(255, 8) + "\x7f", math.MaxInt, 9},
	} {
		if n, used, e := Read(c.s); n != c.n || used != c.used || e != api.OK {
			t.Errorf("Read of %x is %d, %d, %d, not %d, %d", c.s, n, used, e, c.n, c.used)
		}
	}
}

// P1.1: what Read refuses, and that nothing stands beside an error.
func TestReadWrong(t *testing.T) {
	for _, c := range []struct {
		s    string
		want api.Errno
	}{
		{"", api.ErrShort},
		{"\x80", api.ErrShort},
		{"\xff", api.ErrShort},
		{"\x81\x82", api.ErrShort},
		{repeated(128, 8), api.ErrShort},
		{repeated(255, 8), api.ErrShort},
		{repeated(128, 9), api.ErrLong},
		{repeated(255, 9), api.ErrLong},
		{repeated(128, 9) + "\x00", api.ErrLong},
		{repeated(128, 9) + "\x01", api.ErrLong},
		{repeated(255, 30), api.ErrLong},
		{"\x80\x00", api.ErrSyntax},
		{"\xff\x00\x01", api.ErrSyntax},
		{"\x81\x80\x00", api.ErrSyntax},
		{repeated(128, 8) + "\x00", api.ErrSyntax},
		{repeated(255, 8) + "\x00\x80", api.ErrSyntax},
	} {
		if n, used, e := Read(c.s); n != 0 || used != 0 || e != c.want {
			t.Errorf("Read of %x is %d, %d, %d, not %d", c.s, n, used, e, c.want)
		}
	}
}

// P1.1: the check, of bytes that are known.
func TestCrc(t *testing.T) {
	for s, want := range map[string]uint32{
		"":                 0,
		"\x00":             0xd202ef8d,
		"\xff":             0xff000000,
		"a":                0xe8b7be43,
		"abc":              0x352441c2,
		"123456789":        3421780262,
		"\x00\x00\x00\x00": 0x2144df1c,
		"\xff\xff\xff\xff": 0xffffffff,
	} {
		if c := Crc(s); c != want {
			t.Errorf("Crc of %x is %08x, not %08x", s, c, want)
		}
	}
}

// P1.1: the check, of bytes of any kind.
func TestCrcAny(t *testing.T) {
	r := rand.New(rand.NewSource(1))
	for range 500 {
		s := randomText(r, 300)
		if c, want := Crc(s), crc32.ChecksumIEEE([]byte(s)); c != want {
			t.Fatalf("Crc of %x is %08x, not %08x", s, c, want)
		}
	}
}

// P1.2: how texts are bound.
func TestBind(t *testing.T) {
	long := repeated('x', api.MaxText)
	for _, c := range []struct {
		parts []string
		want  string
	}{
		{nil, ""},
		{[]string{}, ""},
		{[]string{""}, "\x00"},
		{[]string{"", ""}, "\x00\x00"},
		{[]string{"a", "", "bc"}, "\x01a\x00\x02bc"},
		{[]string{"bc", "a"}, "\x02bc\x01a"},
		{[]string{"\x00\xff"}, "\x02\x00\xff"},
		{[]string{repeated('y', 127)}, "\x7f" + repeated('y', 127)},
		{[]string{repeated('y', 128)}, "\x80\x01" + repeated('y', 128)},
		{[]string{long}, "\x80\x40" + long},
		{make([]string, api.MaxParts), repeated(0, api.MaxParts)},
	} {
		if s, e := Bind(c.parts...); s != c.want || e != api.OK {
			t.Errorf("Bind of %d texts is %x, %d", len(c.parts), s, e)
		}
	}
}

// P1.2: too many texts, and one that is too long, wherever it stands.
func TestBindWrong(t *testing.T) {
	long := repeated('x', api.MaxText+1)
	for _, parts := range [][]string{
		make([]string, api.MaxParts+1),
		make([]string, 2*api.MaxParts),
		{long},
		{long, "a"},
		{"a", "b", long},
	} {
		if s, e := Bind(parts...); s != "" || e != api.ErrLong {
			t.Errorf("Bind of %d texts is %x, %d", len(parts), s, e)
		}
	}
}

// P1.2: how texts are taken apart.
func TestLoose(t *testing.T) {
	long := repeated('x', api.MaxText)
	for _, c := range []struct {
		s    string
		want []string
	}{
		{"", nil},
		{"\x00", []string{""}},
		{"\x01a\x00\x02bc", []string{"a", "", "bc"}},
		{"\x02\x00\xff", []string{"\x00\xff"}},
		{"\x80\x01" + repeated('y', 128), []string{repeated('y', 128)}},
		{"\x80\x40" + long, []string{long}},
		{"\x80\x40" + long + "\x01a", []string{long, "a"}},
		{repeated(0, api.MaxParts), make([]string, api.MaxParts)},
	} {
		if parts, e := Loose(c.s); !slices.Equal(parts, c.want) || e != api.OK {
			t.Errorf("Loose of %x is %q, %d", c.s, parts, e)
		}
	}
}

// P1.2: what Loose refuses, and which error comes first.
func TestLooseWrong(t *testing.T) {
	full := repeated(0, api.MaxParts)
	for _, c := range []struct {
		s    string
		want api.Errno
	}{
		{"\x80", api.ErrShort},
		{"\x01", api.ErrShort},
		{"\x02b", api.ErrShort},
		{"\x01a\x03bc", api.ErrShort},
		{"\x80\x40" + repeated('x', api.MaxText-1), api.ErrShort},
		{"\x80\x00", api.ErrSyntax},
		{"\x01a\x81\x80\x00", api.ErrSyntax},
		{repeated(128, 9), api.ErrLong},
		{repeated(255, 8) + "\x7f", api.ErrLong},
		{"\x81\x40", api.ErrLong}, // 8193, and too few bytes as well
		{"\x81\x40" + repeated('x', api.MaxText+1), api.ErrLong},
		{full + "\x00", api.ErrLong},
		{full + "\x01", api.ErrLong}, // the 513th, and too few bytes as well
		{full + "\x80", api.ErrShort},
		{full + "\x80\x00", api.ErrSyntax},
	} {
		if parts, e := Loose(c.s); len(parts) != 0 || e != c.want {
			t.Errorf("Loose of %x is %q, %d, not %d", c.s, parts, e, c.want)
		}
	}
}

// P1.3: numbers are read as they were, whatever stands behind them.
func TestNumbersComeBack(t *testing.T) {
	r := rand.New(rand.NewSource(2))
	check := func(n int) {
		s, e := Number(n)
		if e != api.OK {
			t.Fatalf("Number(%d) tells %d", n, e)
		}
		for _, behind := range []string{"", "\x00", "\x80", randomText(r, 12)} {
			if got, used, e := Read(s + behind); got != n || used != len(s) || e != api.OK {
				t.Fatalf("%d is read as %d, %d, %d", n, got, used, e)
			}
		}
		for i := range len(s) {
			if _, _, e := Read(s[:i]); e != api.ErrShort {
				t.Fatalf("the first %d bytes of %d are read: %d", i, n, e)
			}
		}
	}
	for n := range 40000 {
		check(n)
	}
	for bit := range 62 {
		check(1<<bit - 1)
		check(1 << bit)
		check(top - 1<<bit)
		check(r.Intn(1 << bit))
	}
	check(top)
}

// P1.3: texts that are bound are read as they were.
func TestTextsComeBack(t *testing.T) {
	r := rand.New(rand.NewSource(3))
	check := func(parts []string) {
		s, e := Bind(parts...)
		if e != api.OK {
			t.Fatalf("Bind tells %d", e)
		}
		if got, e := Loose(s); !slices.Equal(got, parts) || e != api.OK {
			t.Fatalf("%q are read as %q, %d", parts, got, e)
		}
	}
	for range 300 {
		parts := make([]string, r.Intn(20))
		for i := range parts {
			parts[i] = randomText(r, 400)
		}
		check(parts)
	}
	most := make([]string, api.MaxParts)
	for i := range most {
		most[i] = repeated(byte(i), api.MaxText)
	}
	check(most)
}

// P1.3: whatever Loose takes apart is bound as it was.
func TestOneTextOfTexts(t *testing.T) {
	r := rand.New(rand.NewSource(4))
	taken := 0
	for range 100000 {
		b := []byte(randomText(r, 8))
		for i := range b {
			b[i] &= 0x83 // few sizes, so that many are taken
		}
		parts, e := Loose(string(b))
		if e != api.OK {
			continue
		}
		taken++
		if s, e := Bind(parts...); s != string(b) || e != api.OK {
			t.Fatalf("%x is bound anew as %x, %d", b, s, e)
		}
	}
	if taken < 1000 {
		t.Errorf("only %d were taken", taken)
	}
}

// changed are bytes with the bits xored that a pattern has, from a bit on; in each byte the lowest comes first.
func changed(s string, from int, pattern uint32) string {
	b := []byte(s)
	for i := range 32 {
		if bit := from + i; pattern>>i&1 == 1 {
			b[bit/8] ^= 1 << (bit % 8)
		}
	}
	return string(b)
}

// P1.3: a change within 32 bits that follow one another changes the check.
func TestCheckTellsChanges(t *testing.T) {
	r := rand.New(rand.NewSource(5))
	for range 60 {
		s := "1234" + randomText(r, 40)
		was := Crc(s)
		for from := range len(s)*8 - 31 {
			for _, pattern := range []uint32{1, 1 << 31, 1<<31 | 1, math.MaxUint32, 3988292384, r.Uint32() | 1} {
				if x := changed(s, from, pattern); Crc(x) == was {
					t.Fatalf("%x and %x have the check %08x", s, x, was)
				}
			}
		}
	}
}

// P1.3: all changes of two bits and of a byte, in a text.
func TestCheckTellsSmallChanges(t *testing.T) {
	s := "a text to be sent"
	was := Crc(s)
	for from := range len(s)*8 - 31 {
		for i := range 31 {
			if Crc(changed(s, from, 1|2<<i)) == was {
				t.Fatalf("bits %d and %d", from, from+i+1)
			}
		}
		for pattern := uint32(1); pattern < 256; pattern++ {
			if Crc(changed(s, from, pattern)) == was {
				t.Fatalf("bits %02x from %d on", pattern, from)
			}
		}
	}
}

// P1.3: the check goes on from that of what is ahead.
func TestCheckGoesOn(t *testing.T) {
	r := rand.New(rand.NewSource(6))
	for range 500 {
		ahead, behind := randomText(r, 60), randomText(r, 60)
		want := crc32.Update(Crc(ahead), crc32.IEEETable, []byte(behind))
		if c := Crc(ahead + behind); c != want {
			t.Fatalf("of %x and %x: %08x, not %08x", ahead, behind, c, want)
		}
	}
}

// P1.3, way closure: each step of a check answers the check so far, and two checks do not hear of each other.
func TestCheckGoesOnByByte(t *testing.T) {
	s := "123456789"
	one, other := newCheck(), newCheck()
	for i := range len(s) {
		if c, want := one(s[i]), Crc(s[:i+1]); c != want {
			t.Errorf("of %q: %08x, not %08x", s[:i+1], c, want)
		}
		if c, want := other(0), Crc(repeated(0, i+1)); c != want {
			t.Errorf("of %d bytes 0: %08x, not %08x", i+1, c, want)
		}
	}
}

// P1, R1, R2: whatever is handed in, each call ends, answers the same again, and has nothing beside an error.
func TestAnyBytes(t *testing.T) {
	r := rand.New(rand.NewSource(7))
	for range 20000 {
		s := randomText(r, 24)
		n, used, e := Read(s)
		if e != api.OK && (n != 0 || used != 0) || used > len(s) || n < 0 {
			t.Fatalf("Read of %x is %d, %d, %d", s, n, used, e)
		}
		if n2, used2, e2 := Read(s); n2 != n || used2 != used || e2 != e {
			t.Fatalf("Read of %x is another one", s)
		}
		parts, e := Loose(s)
		if e != api.OK && len(parts) != 0 {
			t.Fatalf("Loose of %x is %q, %d", s, parts, e)
		}
		if parts2, e2 := Loose(s); !slices.Equal(parts2, parts) || e2 != e {
			t.Fatalf("Loose of %x is another one", s)
		}
	}
}

// R4: the list that Bind is handed stays as it was.
func TestBindChangesNothing(t *testing.T) {
	parts := []string{"a", "", "bc"}
	was := slices.Clone(parts)
	if _, e := Bind(parts[:2]...); e != api.OK || !slices.Equal(parts, was) {
		t.Errorf("%q, %d", parts, e)
	}
}
