package seal

import (
	"hash/crc32"
	"math"
	"math/rand"
	"slices"
	"testing"

	"transhipment/api"
	"transhipment/frame"
)

// bind is texts, bound; the tests hand it none that can't be.
func bind(parts ...string) string {
	s, e := frame.Bind(parts...)
	if e != api.OK {
		panic("texts that can't be bound")
	}
	return s
}

// trueCheck is a section's check in bytes, as another program has it.
func trueCheck(section string) string {
	c := crc32.ChecksumIEEE([]byte(section))
	return string([]byte{byte(c), byte(c >> 8), byte(c >> 16), byte(c >> 24)})
}

// framed is a section's frame.
func framed(section string) string { return bind(section, trueCheck(section)) }

// summed is what is said to be frames, with all around it that is sealed.
func summed(between string) string { return "seal" + between + trueSum("seal"+between) }

// changed are bytes with the bits xored that a pattern has, from a bit on; in each byte the lowest comes first.
func changed(s string, from int, pattern uint32) string {
	b := []byte(s)
	for i := range 32 {
		if bit := from + i; pattern>>i&1 == 1 {
			b[bit/8] ^= 1 << (bit % 8)
		}
	}
	return string(b)
}

// randomSections are a few sections of bytes of any kind.
func randomSections(r *rand.Rand, most int) []string {
	sections := make([]string, r.Intn(12))
	for i := range sections {
		sections[i] = randomText(r, most)
	}
	return sections
}

// P2.2: what is sealed, byte by byte.
func TestClose(t *testing.T) {
	y := repeated('y', 200)
	for _, c := range []struct {
		sections []string
		between  string
	}{
		{nil, ""},
		{[]string{}, ""},
		{[]string{""}, "\x06\x00\x04\x00\x00\x00\x00"},
		{[]string{"a"}, "\x07\x01a\x04\x43\xbe\xb7\xe8"},
		{[]string{"a", "", "bc"}, "\x07\x01a\x04\x43\xbe\xb7\xe8" + "\x06\x00\x04\x00\x00\x00\x00" + "\x08\x02bc\x04\x38\x2b\xa9\xc2"},
		{[]string{"bc", "a"}, "\x08\x02bc\x04\x38\x2b\xa9\xc2" + "\x07\x01a\x04\x43\xbe\xb7\xe8"},
		{[]string{y}, "\xcf\x01\xc8\x01" + y + "\x04" + trueCheck(y)},
	} {
		if s, e := Close(c.sections...); s != summed(c.between) || e != api.OK {
			t.Errorf("%q are sealed as %x, %d", c.sections, s, e)
		}
	}
}

// P2.2: as many sections, and as long ones, as may be.
func TestCloseMost(t *testing.T) {
	most := make([]string, 64)
	for i := range most {
		most[i] = repeated(byte(i), 4096)
	}
	s, e := Close(most...)
	if e != api.OK {
		t.Fatal(e)
	}
	if got, e := Open(s); !slices.Equal(got, most) || e != api.OK {
		t.Errorf("%d sections, %d", len(got), e)
	}
}

// P2.2: too many sections, and one that is too long, wherever it stands.
func TestCloseWrong(t *testing.T) {
	long := repeated('x', 4097)
	last := make([]string, 64)
	last[63] = long
	for _, sections := range [][]string{
		make([]string, 65),
		make([]string, 513),
		{long},
		{long, "a"},
		{"a", "b", long},
		{repeated('x', 8193)},
		last,
	} {
		if s, e := Close(sections...); s != "" || e != api.ErrLong {
			t.Errorf("%d sections: %x, %d", len(sections), s, e)
		}
	}
}

// P2.2: what is opened.
func TestOpen(t *testing.T) {
	long := repeated('x', 4096)
	for _, c := range []struct {
		between string
		want    []string
	}{
		{"", nil},
		{"\x06\x00\x04\x00\x00\x00\x00", []string{""}},
		{"\x07\x01a\x04\x43\xbe\xb7\xe8", []string{"a"}},
		{bind(framed("a"), framed(""), framed("bc")), []string{"a", "", "bc"}},
		{bind(framed("seal\x00\xff")), []string{"seal\x00\xff"}},
		{bind(framed(long)), []string{long}},
		{bind(slices.Repeat([]string{framed("a")}, 64)...), slices.Repeat([]string{"a"}, 64)},
	} {
		if got, e := Open(summed(c.between)); !slices.Equal(got, c.want) || e != api.OK {
			t.Errorf("%x is opened as %q, %d", c.between, got, e)
		}
	}
}

// refused tells what Open does not refuse by that error, and with nothing beside it.
func refused(t *testing.T, s string, want api.Errno) {
	t.Helper()
	if got, e := Open(s); len(got) != 0 || e != want {
		t.Errorf("%x is opened as %q, %d, not %d", s, got, e, want)
	}
}

// P2.2: the errors of what is around the frames, and which comes first.
func TestOpenWrongAround(t *testing.T) {
	good := summed(bind(framed("a"), framed("bc")))
	refused(t, "", api.ErrShort)
	refused(t, "seal", api.ErrShort)
	refused(t, good[:35], api.ErrShort)
	refused(t, repeated('x', 35), api.ErrShort) // neither begins it with the letters
	refused(t, trueSum("")+"abc", api.ErrShort)
	refused(t, repeated('x', 36), api.ErrSyntax) // nor is it summed
	refused(t, "Seal"+trueSum("Seal"), api.ErrSyntax)
	refused(t, "sea"+trueSum("sea")+"l", api.ErrSyntax)
	refused(t, "x"+good, api.ErrSyntax)
	refused(t, good[1:], api.ErrSyntax)
	refused(t, "seal"+repeated(0, 32), api.ErrSum)
	refused(t, "seal"+trueSum(""), api.ErrSum)
	refused(t, good[:36], api.ErrSum)
	refused(t, good[:len(good)-1], api.ErrSum)
	refused(t, good+"\x00", api.ErrSum)
	refused(t, "seal\x05a"+trueSum("x"), api.ErrSum) // nor is it bound
	for i := range 32 * 8 {
		refused(t, changed(good, (len(good)-32)*8+i, 1), api.ErrSum)
	}
}

// P2.2: what is between is not bound, or is too much.
func TestOpenWrongBetween(t *testing.T) {
	refused(t, summed("\x80"), api.ErrShort)
	refused(t, summed("\x05a"), api.ErrShort)
	refused(t, summed("\x80\x00"), api.ErrSyntax)
	refused(t, summed(repeated(128, 9)), api.ErrLong)
	refused(t, summed("\x81\x40"+repeated('x', 8193)), api.ErrLong)
	refused(t, summed(repeated(0, 513)), api.ErrLong)
	many := bind(slices.Repeat([]string{framed("a")}, 65)...)
	refused(t, summed(many), api.ErrLong)
	refused(t, summed(repeated(0, 65)), api.ErrLong)   // no frames, too
	refused(t, summed(repeated(0, 64)), api.ErrSyntax) // as many as may be
	refused(t, summed(many+"\x05a"), api.ErrShort)     // Loose's error comes first
	refused(t, summed(many+"\x80\x00"), api.ErrSyntax) // so does it here
	refused(t, summed("\x01x\x05a"), api.ErrShort)     // ahead of what is no frame
	refused(t, summed(repeated(0, 64)+"\x80"), api.ErrShort)
}

// P2.2: a section that is no frame of two texts, the second one of 4 bytes.
func TestOpenNoFrame(t *testing.T) {
	for _, wrong := range []string{
		"",
		bind("a"),
		bind(trueCheck("a")),
		bind("a", trueCheck("a"), ""),
		bind("a", trueCheck("a"), "", ""),
		bind("a", ""),
		bind("a", trueCheck("a")[:3]),
		bind("a", trueCheck("a")+"\x00"),
		bind(trueCheck("a"), "a"),
		framed("a") + "\x80",
		framed("a") + "\x05",
		framed("a")[:6],
		"\x80",
		"\x80\x00\x04\x00\x00\x00\x00",
		"\x81\x00a\x04\x43\xbe\xb7\xe8",
		"\x01a\x84\x00\x43\xbe\xb7\xe8",
		"\x81\x40" + repeated('x', 8000), // Loose tells that it is too long, and yet it is no frame
		repeated(128, 9),
		repeated(0, 513),
		bind(repeated('x', 4097), "123"), // too long as well
		bind(repeated('x', 4097)),
	} {
		refused(t, summed(bind(wrong)), api.ErrSyntax)
		refused(t, summed(bind(framed("ahead"), wrong)), api.ErrSyntax)
	}
}

// P2.2: sections that are too long, and checks of others.
func TestOpenWrongSection(t *testing.T) {
	long := repeated('x', 4097)
	refused(t, summed(bind(framed(long))), api.ErrLong)
	refused(t, summed(bind(bind(long, "1234"))), api.ErrLong) // nor is that its check
	refused(t, summed(bind(framed(repeated('x', 8185)))), api.ErrLong)
	refused(t, summed(bind(bind("a", trueCheck("b")))), api.ErrCrc)
	refused(t, summed(bind(bind("a", "\xe8\xb7\xbe\x43"))), api.ErrCrc) // the highest byte first
	refused(t, summed(bind(bind("", "\x00\x00\x00\x01"))), api.ErrCrc)
	refused(t, summed(bind(bind("b", "\x00\x00\x00\x00"))), api.ErrCrc)
	refused(t, summed(bind(bind(repeated('x', 4096), "1234"))), api.ErrCrc)
}

// P2.2: the errors of an earlier section come first.
func TestOpenSectionBySection(t *testing.T) {
	wrong := map[api.Errno]string{
		api.ErrSyntax: bind("a"),
		api.ErrLong:   framed(repeated('x', 4097)),
		api.ErrCrc:    bind("a", "1234"),
	}
	for first, one := range wrong {
		for _, other := range wrong {
			refused(t, summed(bind(one, other)), first)
			refused(t, summed(bind(framed("a"), one, framed("b"), other)), first)
		}
	}
}

// P2.3: what is sealed is opened as it was.
func TestSectionsComeBack(t *testing.T) {
	r := rand.New(rand.NewSource(3))
	for i := range 300 {
		sections := randomSections(r, 1+i*13)
		s, e := Close(sections...)
		if e != api.OK {
			t.Fatal(e)
		}
		if got, e := Open(s); !slices.Equal(got, sections) || e != api.OK {
			t.Fatalf("%q are opened as %q, %d", sections, got, e)
		}
	}
}

// P2.3: each length of a section at the edges of its number's bytes, and its frame's.
func TestLengthsComeBack(t *testing.T) {
	for _, size := range []int{0, 1, 121, 122, 123, 127, 128, 129, 255, 256, 4095, 4096} {
		sections := []string{repeated('\x80', size), repeated(0, size)}
		s, e := Close(sections...)
		if e != api.OK || s != summed(bind(framed(sections[0]), framed(sections[1]))) {
			t.Fatalf("of %d bytes: %x, %d", size, s, e)
		}
		if got, e := Open(s); !slices.Equal(got, sections) || e != api.OK {
			t.Fatalf("of %d bytes: %q, %d", size, got, e)
		}
	}
}

// P2.3: what is opened, sealed again, is the same bytes, though it was altered and summed anew.
func TestOneTextOfSections(t *testing.T) {
	r := rand.New(rand.NewSource(4))
	opened, not := 0, 0
	for range 60000 {
		frames := make([]string, r.Intn(4))
		for i := range frames {
			frames[i] = framed(randomText(r, 3))
		}
		between := []byte(bind(frames...))
		if len(between) > 0 && r.Intn(2) == 0 {
			between[r.Intn(len(between))] = byte(r.Intn(9))
		}
		s := summed(string(between))
		sections, e := Open(s)
		if e != api.OK {
			not++
			continue
		}
		opened++
		if again, e := Close(sections...); again != s || e != api.OK {
			t.Fatalf("%x is sealed again as %x, %d", s, again, e)
		}
	}
	if opened < 10000 || not < 10000 {
		t.Errorf("%d were opened, %d were not", opened, not)
	}
}

// P2.3: a change in 32 bits that follow one another, in one section, is refused, even if all of it is summed anew.
func TestChangesInSections(t *testing.T) {
	r := rand.New(rand.NewSource(5))
	for range 12 {
		ahead, section, behind := randomText(r, 20), "1234"+randomText(r, 30), randomText(r, 20)
		was := bind(framed(ahead), framed(section), framed(behind))
		start := len(bind(framed(ahead))) + 2 // behind the frame's number and the section's
		end := start + len(section)
		for _, span := range [][2]int{{start, end}, {end + 1, end + 1 + checkSize}} { // the section alone, its check alone
			for from := span[0] * 8; from <= span[1]*8-32; from++ {
				for _, pattern := range []uint32{1, 1 << 31, 1<<31 | 1, math.MaxUint32, 3988292384, r.Uint32() | 1} {
					between := changed(was, from, pattern)
					refused(t, summed(between), api.ErrCrc)
					refused(t, "seal"+between+trueSum("seal"+was), api.ErrSum)
				}
			}
		}
	}
}

// P2.3: one bit, and a byte, changed anywhere in what is sealed.
func TestSmallChanges(t *testing.T) {
	s, _ := Close("a", "", "bc")
	for from := range len(s) * 8 {
		want := api.ErrSum
		if from < 4*8 {
			want = api.ErrSyntax
		}
		refused(t, changed(s, from, 1), want)
	}
	for i := range len(s) {
		for b := range 256 {
			x := s[:i] + string([]byte{byte(b)}) + s[i+1:]
			if _, e := Open(x); (e == api.OK) != (x == s) {
				t.Fatalf("byte %d as %d: %d", i, b, e)
			}
		}
	}
}

// P1, R1, R2: whatever is handed in, each call ends, answers the same again, and has nothing beside an error.
func TestAnyBytes(t *testing.T) {
	r := rand.New(rand.NewSource(6))
	for range 20000 {
		for _, s := range []string{randomText(r, 80), "seal" + randomText(r, 60), summed(randomText(r, 12))} {
			got, e := Open(s)
			if e != api.OK && len(got) != 0 {
				t.Fatalf("%x is opened as %q, %d", s, got, e)
			}
			if got2, e2 := Open(s); !slices.Equal(got2, got) || e2 != e {
				t.Fatalf("%x is opened in another way", s)
			}
		}
	}
}

// R4: the list that Close is handed stays as it was.
func TestCloseChangesNothing(t *testing.T) {
	sections := []string{"a", "", "bc", "d"}
	was := slices.Clone(sections)
	if _, e := Close(sections[:2]...); e != api.OK || !slices.Equal(sections, was) {
		t.Errorf("%q, %d", sections, e)
	}
}
