package matcher

import (
	"math"
	"math/rand"
	"slices"
	"strings"
	"testing"

	"transhipment/api"
)

const (
	nameBytes = "ABCDEFGHIJKLMNOPQRSTUVWXYZabcdefghijklmnopqrstuvwxyz_0123456789"
	notFirst  = "0123456789"
	wordBytes = nameBytes + "-./:"
)

// of is a matcher, whether it may be or not.
func of(name string, how int, words ...string) api.Matcher {
	return api.Matcher{Name: name, How: how, Words: words}
}

// pairs are labels of names and values, one behind the other.
func pairs(words ...string) []api.Label {
	var l []api.Label
	for i := 0; i < len(words); i += 2 {
		l = append(l, api.Label{Name: words[i], Value: words[i+1]})
	}
	return l
}

// long is a text of that many bytes.
func long(many int) string { return strings.Repeat("n", many) }

// letters are words of one letter, so many, from `a` on.
func letters(many int) []string {
	var words []string
	for i := range many {
		words = append(words, string([]byte{'a' + byte(i)}))
	}
	return words
}

// opposite is the How that holds just where another one does not.
var opposite = map[int]int{api.MIs: api.MNot, api.MNot: api.MIs, api.MOne: api.MNone, api.MNone: api.MOne}

// same holds matchers against each other, part by part.
func same(a, b api.Matcher) bool {
	if a.Name != b.Name || a.How != b.How || len(a.Words) != len(b.Words) {
		return false
	}
	for i, word := range a.Words {
		if word != b.Words[i] {
			return false
		}
	}
	return true
}

// zero tells whether a matcher has nothing.
func zero(m api.Matcher) bool { return m.Name == "" && m.How == 0 && len(m.Words) == 0 }

// randomOf is a text of some bytes, at the least and at the most so long.
func randomOf(r *rand.Rand, bytes string, least, most int) string {
	b := make([]byte, least+r.Intn(most-least+1))
	for i := range b {
		b[i] = bytes[r.Intn(len(bytes))]
	}
	return string(b)
}

// randomWord is a word that may be, mostly one of a few.
func randomWord(r *rand.Rand) string {
	if r.Intn(6) == 0 {
		return randomOf(r, wordBytes, 0, 64)
	}
	return []string{"", "a", "b", "ab", "-", ":", "1"}[r.Intn(7)]
}

// randomMatcher is one that may be.
func randomMatcher(r *rand.Rand) api.Matcher {
	m := of(string([]byte{"abcZ_"[r.Intn(5)]}), 1+r.Intn(4), randomWord(r))
	if r.Intn(6) == 0 {
		m.Name += randomOf(r, nameBytes, 0, 63)
	}
	if m.How == api.MOne || m.How == api.MNone {
		for range r.Intn(8) {
			m.Words = append(m.Words, randomWord(r))
		}
		slices.Sort(m.Words)
		m.Words = slices.Compact(m.Words)
	}
	return m
}

// randomSet is a set that may be, of values that are no words, too.
func randomSet(r *rand.Rand) []api.Label {
	var l []api.Label
	for _, name := range []string{"Z", "_", "a", "b", "c"} {
		if r.Intn(3) > 0 {
			l = append(l, api.Label{Name: name, Value: []string{"a", "b", "ab", "-", ":", "1", " ", "a|b", `"`}[r.Intn(9)]})
		}
	}
	return l
}

// rightMatchers are matchers that may be.
func rightMatchers() []api.Matcher {
	return []api.Matcher{
		of("a", api.MIs, "b"),
		of("a", api.MIs, ""),
		of("a", api.MNot, "b"),
		of("a", api.MNot, ""),
		of("a", api.MOne, "b"),
		of("a", api.MOne, ""),
		of("a", api.MOne, "", "b"),
		of("a", api.MOne, "b", "c"),
		of("a", api.MOne, "b", "bb"),
		of("a", api.MOne, letters(8)...),
		of("a", api.MNone, "b"),
		of("a", api.MNone, ""),
		of("a", api.MNone, "", "-", ".", "/", "0", ":", "A", "_"),
		of("a", api.MNone, letters(8)...),
		of("_", api.MIs, wordBytes[:64]),
		of("A0_", api.MIs, "0-9"),
		of(long(64), api.MNot, long(64)),
		of(nameBytes, api.MOne, long(63), long(64)),
	}
}

// wrongMatchers are matchers that may not be, and would, if one thing were another.
func wrongMatchers() []api.Matcher {
	return []api.Matcher{
		{},
		of("", api.MIs, "b"),
		of("1", api.MIs, "b"),
		of("a-", api.MIs, "b"),
		of("a=", api.MIs, "b"),
		of("a!", api.MIs, "b"),
		of("a ", api.MNot, "b"),
		of("\xc3\xa9", api.MOne, "b"),
		of(long(65), api.MNone, "b"),
		of("a", 0, "b"),
		of("a", 5, "b"),
		of("a", -1, "b"),
		of("a", math.MinInt, "b"),
		of("a", math.MaxInt, "b"),
		of("a", api.MIs+1<<32, "b"),
		of("a", api.MIs),
		of("a", api.MNot),
		of("a", api.MOne),
		of("a", api.MNone),
		of("a", api.MIs, "b", "c"),
		of("a", api.MNot, "b", "c"),
		of("a", api.MIs, letters(8)...),
		of("a", api.MOne, letters(9)...),
		of("a", api.MNone, letters(9)...),
		of("a", api.MIs, long(65)),
		of("a", api.MNot, long(65)),
		of("a", api.MOne, "b", long(65)),
		of("a", api.MNone, long(65), "o"),
		of("a", api.MIs, " "),
		of("a", api.MNot, "b|c"),
		of("a", api.MIs, `"`),
		of("a", api.MIs, "\x00"),
		of("a", api.MOne, "b", "c "),
		of("a", api.MNone, "\xff"),
		of("a", api.MNone, "b", "\xff"),
		of("a", api.MOne, "b", "b"),
		of("a", api.MOne, "", ""),
		of("a", api.MOne, "c", "b"),
		of("a", api.MOne, "b", ""),
		of("a", api.MNone, "bb", "b"),
		of("a", api.MNone, "a", "c", "b"),
		of("a", api.MNone, "a", "Z"),
	}
}

// wrongSets are lists of labels that are no sets.
func wrongSets() [][]api.Label {
	return [][]api.Label{
		pairs("", "b"),
		pairs("a", ""),
		pairs("1", "b"),
		pairs("a", "\n"),
		pairs("b", "b", "a", "b"),
		pairs("a", "b", "a", "b"),
		pairs("a", "b", "b", "b", "c", "b", "d", "b", "e", "b", "f", "b", "g", "b", "h", "b", "i", "b"),
	}
}

// P4.1: matchers that may be, and that may not.
func TestRight(t *testing.T) {
	for _, m := range rightMatchers() {
		if !Right(m) {
			t.Errorf("%#v may not be", m)
		}
	}
	for _, m := range wrongMatchers() {
		if Right(m) {
			t.Errorf("%#v may be", m)
		}
	}
}

// P4.1: each byte, in a name and in a word, at each of their places, of each How.
func TestBytes(t *testing.T) {
	for b := range 256 {
		s := string([]byte{byte(b)})
		name, word := strings.Contains(nameBytes, s), strings.Contains(wordBytes, s)
		first := name && !strings.Contains(notFirst, s)
		for how := api.MIs; how <= api.MNone; how++ {
			for _, c := range []struct {
				m    api.Matcher
				want bool
			}{
				{of(s, how, "b"), first},
				{of(s+"a", how, "b"), first},
				{of("a"+s, how, "b"), name},
				{of("a"+s+"a", how, "b"), name},
				{of("a", how, s), word},
				{of("a", how, s+"b"), word},
				{of("a", how, "b"+s), word},
				{of("a", how, long(63)+s), word},
				{of("a", how, long(64)+s), false},
			} {
				if Right(c.m) != c.want {
					t.Errorf("%#v may be: %v", c.m, !c.want)
				}
				if _, e := Holds(nil, c.m); (e == api.OK) != c.want || !c.want && e != api.ErrArg {
					t.Errorf("whether %#v holds: %d", c.m, e)
				}
			}
		}
	}
}

// P4.1: how many words there may be, of each How.
func TestHowMany(t *testing.T) {
	most := map[int]int{api.MIs: 1, api.MNot: 1, api.MOne: 8, api.MNone: 8}
	for how := -2; how < 8; how++ {
		for many := range 12 {
			want := many >= 1 && many <= most[how]
			if m := of("a", how, letters(many)...); Right(m) != want {
				t.Errorf("%#v may be: %v", m, !want)
			}
		}
	}
}

// P4.1: what holds of sets, one matcher or some.
func TestHolds(t *testing.T) {
	l := pairs("a", "b", "c", "d e", "f", long(64))
	for _, c := range []struct {
		l    []api.Label
		m    []api.Matcher
		want bool
	}{
		{nil, nil, true},
		{l, nil, true},
		{l, []api.Matcher{}, true},
		{l, []api.Matcher{of("a", api.MIs, "b")}, true},
		{l, []api.Matcher{of("a", api.MIs, "c")}, false},
		{l, []api.Matcher{of("a", api.MIs, "B")}, false},
		{l, []api.Matcher{of("a", api.MIs, "bb")}, false},
		{l, []api.Matcher{of("a", api.MIs, "")}, false},
		{l, []api.Matcher{of("A", api.MIs, "b")}, false},
		{l, []api.Matcher{of("a", api.MNot, "b")}, false},
		{l, []api.Matcher{of("a", api.MNot, "c")}, true},
		{l, []api.Matcher{of("a", api.MNot, "")}, true},
		{l, []api.Matcher{of("a", api.MOne, "b")}, true},
		{l, []api.Matcher{of("a", api.MOne, "b", "c")}, true},
		{l, []api.Matcher{of("a", api.MOne, "a", "b")}, true},
		{l, []api.Matcher{of("a", api.MOne, "a", "b", "c")}, true},
		{l, []api.Matcher{of("a", api.MOne, "", "a", "c")}, false},
		{l, []api.Matcher{of("a", api.MOne, letters(8)...)}, true},
		{l, []api.Matcher{of("a", api.MNone, "b", "c")}, false},
		{l, []api.Matcher{of("a", api.MNone, "a", "b")}, false},
		{l, []api.Matcher{of("a", api.MNone, "a", "c")}, true},
		{l, []api.Matcher{of("x", api.MIs, "")}, true},
		{l, []api.Matcher{of("x", api.MIs, "b")}, false},
		{l, []api.Matcher{of("x", api.MNot, "")}, false},
		{l, []api.Matcher{of("x", api.MNot, "b")}, true},
		{l, []api.Matcher{of("x", api.MOne, "", "b")}, true},
		{l, []api.Matcher{of("x", api.MOne, "b", "c")}, false},
		{l, []api.Matcher{of("x", api.MNone, "", "b")}, false},
		{l, []api.Matcher{of("x", api.MNone, "b", "c")}, true},
		{nil, []api.Matcher{of("a", api.MIs, "")}, true},
		{nil, []api.Matcher{of("a", api.MNot, "b")}, true},
		{nil, []api.Matcher{of("a", api.MNot, "")}, false},
		{l, []api.Matcher{of("c", api.MIs, "d")}, false},
		{l, []api.Matcher{of("c", api.MNone, "", "d", "e")}, true},
		{l, []api.Matcher{of("f", api.MIs, long(64))}, true},
		{l, []api.Matcher{of("f", api.MIs, long(63))}, false},
		{l, []api.Matcher{of("a", api.MIs, "b"), of("c", api.MNot, "d"), of("x", api.MIs, "")}, true},
		{l, []api.Matcher{of("a", api.MIs, "c"), of("c", api.MNot, "d"), of("x", api.MIs, "")}, false},
		{l, []api.Matcher{of("a", api.MIs, "b"), of("c", api.MIs, "d"), of("x", api.MIs, "")}, false},
		{l, []api.Matcher{of("a", api.MIs, "b"), of("c", api.MNot, "d"), of("x", api.MNot, "")}, false},
		{l, []api.Matcher{of("a", api.MIs, "b"), of("a", api.MIs, "b")}, true},
		{l, []api.Matcher{of("a", api.MIs, "b"), of("a", api.MNot, "b")}, false},
		{l, slices.Repeat([]api.Matcher{of("a", api.MIs, "b")}, 1000), true},
		{l, append(slices.Repeat([]api.Matcher{of("a", api.MIs, "b")}, 1000), of("a", api.MIs, "c")), false},
	} {
		if got, e := Holds(c.l, c.m...); got != c.want || e != api.OK {
			t.Errorf("%#v hold of %#v: %v, %d", c.m, c.l, got, e)
		}
	}
}

// P4.1: sets and matchers that may not be are refused, whatever the others are.
func TestHoldsWrong(t *testing.T) {
	holds, not := of("a", api.MIs, "b"), of("a", api.MIs, "c")
	refused := func(l []api.Label, m ...api.Matcher) {
		t.Helper()
		if got, e := Holds(l, m...); got || e != api.ErrArg {
			t.Errorf("%#v hold of %#v: %v, %d", m, l, got, e)
		}
	}
	for _, l := range wrongSets() {
		refused(l)
		refused(l, holds)
		refused(l, not)
		refused(l, of("", 0))
	}
	for _, m := range wrongMatchers() {
		for _, l := range [][]api.Label{nil, pairs("a", "b")} {
			refused(l, m)
			refused(l, holds, m)
			refused(l, m, holds)
			refused(l, not, m)
			refused(l, m, not)
			refused(l, holds, not, m, holds)
		}
	}
}

// P4.1: matchers that are the same, and that are not, whether they may be or not.
func TestLike(t *testing.T) {
	all := append(rightMatchers(), wrongMatchers()...)
	for i, a := range all {
		for k, b := range all {
			b.Words = append([]string{}, b.Words...)
			if Like(a, b) != (i == k) {
				t.Errorf("%#v is like %#v: %v", a, b, i != k)
			}
		}
	}
	for _, c := range []struct {
		a, b api.Matcher
		want bool
	}{
		{api.Matcher{}, api.Matcher{}, true},
		{api.Matcher{Words: []string{}}, api.Matcher{}, true},
		{api.Matcher{}, of("", 0, ""), false},
		{of("a", 9, "b", "a"), of("a", 9, "b", "a"), true},
		{of("a", 9, "b", "a"), of("a", 9, "a", "b"), false},
		{of("a", api.MOne, "b", "c"), of("a", api.MOne, "b"), false},
		{of("a", api.MOne, "b"), of("a", api.MOne, "b", "c"), false},
		{of("a", api.MIs, "b"), of("a", api.MOne, "b"), false},
		{of("a", api.MIs, "b"), of("A", api.MIs, "b"), false},
		{of("a", api.MIs, "b"), of("a", api.MIs, "B"), false},
	} {
		if Like(c.a, c.b) != c.want || Like(c.b, c.a) != c.want {
			t.Errorf("%#v is like %#v: %v", c.a, c.b, !c.want)
		}
	}
}

// P4.3: of a matcher and its opposite one holds of each set, and never both; what holds is what is asked for, word by word.
func TestOpposites(t *testing.T) {
	r := rand.New(rand.NewSource(1))
	held := map[int]int{}
	for range 30000 {
		l, m := randomSet(r), randomMatcher(r)
		against := of(m.Name, opposite[m.How], m.Words...)
		one, e := Holds(l, m)
		other, e2 := Holds(l, against)
		if one == other || e != api.OK || e2 != api.OK {
			t.Fatalf("of %#v hold: %#v %v, %d, %#v %v, %d", l, m, one, e, against, other, e2)
		}
		value := ""
		for _, x := range l {
			if x.Name == m.Name {
				value = x.Value
			}
		}
		among := false
		for _, word := range m.Words {
			among = among || word == value
		}
		if one != (among == (m.How == api.MIs || m.How == api.MOne)) {
			t.Fatalf("of %#v holds %#v: %v", l, m, one)
		}
		if both, e := Holds(l, m, against); both || e != api.OK {
			t.Fatalf("of %#v hold %#v and %#v, %d", l, m, against, e)
		}
		if one {
			held[m.How]++
		}
	}
	for how := range opposite {
		if held[how] < 500 {
			t.Errorf("of How %d, %d held", how, held[how])
		}
	}
}

// P1, R1, R2: whatever is handed in, each call ends, answers the same again, and has nothing beside an error.
func TestAnyMatchers(t *testing.T) {
	r := rand.New(rand.NewSource(2))
	may := 0
	for range 30000 {
		m := of(randomOf(r, "aaaabbb_1 =\xff", 0, 2), r.Intn(6))
		for range r.Intn(1 + r.Intn(11)) {
			m.Words = append(m.Words, randomOf(r, "abcdef123-.|\xff", 0, 2))
		}
		if r.Intn(2) == 0 {
			slices.Sort(m.Words)
		}
		l := pairs(randomOf(r, "ab_1-", 0, 2), randomOf(r, "ab1-| ", 0, 2))
		want, s := Right(m), ""
		if Right(m) != want {
			t.Fatalf("whether %#v may be comes to be another", m)
		}
		if want {
			may++
		}
		holds, e := Holds(l, m)
		if again, e2 := Holds(l, m); again != holds || e2 != e || e != api.OK && holds || !want && e != api.ErrArg {
			t.Fatalf("%#v holds of %#v: %v, %d, then %v, %d", m, l, holds, e, again, e2)
		}
		if s, e = Text(m); (e == api.OK) != want || !want && (s != "" || e != api.ErrArg) {
			t.Fatalf("the text of %#v is %#v, %d", m, s, e)
		}
		if !Like(m, m) {
			t.Fatalf("%#v is not like itself", m)
		}
	}
	if may < 1000 {
		t.Errorf("%d may be", may)
	}
}

// R4: lists that are handed in stay as they were, behind their ends, too; words that are answered are new ones.
func TestListsStay(t *testing.T) {
	words := []string{"b", "c", "a"}
	l := pairs("a", "b", "c", "d", "b", "e")
	some := []api.Matcher{of("a", api.MOne, words[:2]...), of("a", api.MNone, words[2:]...), {}}
	for _, m := range some {
		Right(m)
		Text(m)
		Like(m, some[0])
		Holds(l[:2], m)
	}
	if ok, e := Holds(l[:2], some[:2]...); !ok || e != api.OK {
		t.Error(ok, e)
	}
	if !slices.Equal(words, []string{"b", "c", "a"}) || !slices.Equal(l, pairs("a", "b", "c", "d", "b", "e")) || !same(some[0], of("a", api.MOne, "b", "c")) || !same(some[1], of("a", api.MNone, "a")) || !zero(some[2]) {
		t.Errorf("they came to be %#v, %#v, %#v", words, l, some)
	}
	one, _ := Parse(`a=~"b|c"`)
	one.Words[0] = "x"
	if other, e := Parse(`a=~"b|c"`); !same(other, of("a", api.MOne, "b", "c")) || e != api.OK {
		t.Errorf("read again, it is %#v, %d", other, e)
	}
}

// Ways: each How has a sign of its own, and tests are closures, that keep nothing of one another.
func TestSigns(t *testing.T) {
	texts := map[string]int{}
	for how, sign := range signs() {
		texts[sign.text]++
		if howOf(sign.text) != how {
			t.Errorf("%s is of How %d", sign.text, howOf(sign.text))
		}
	}
	if len(texts) != 4 || howOf("") != 0 || howOf("~") != 0 {
		t.Errorf("signs are %v", texts)
	}
	is, not := test(of("a", api.MIs, "b")), test(of("a", api.MNot, "b"))
	for range 2 {
		if l := pairs("a", "b"); !is(l) || not(l) || is(nil) || !not(nil) {
			t.Error("a test tells something else")
		}
	}
}
