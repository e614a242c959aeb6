package block

import (
	"math/rand"
	"slices"
	"strings"
	"testing"

	"transhipment/api"
)

const (
	wordBytes  = "abcdefghijklmnopqrstuvwxyz0123456789_"
	valueBytes = ` !"#$%&'()*+,-./0123456789:<=>?@ABCDEFGHIJKLMNOPQRSTUVWXYZ[\]^_` + "`abcdefghijklmnopqrstuvwxyz{|}~"
)

// def is a block of a type, of keys and values by turns.
func def(kind string, said ...string) api.Def {
	d := api.Def{Type: kind}
	for i := 0; i < len(said); i += 2 {
		d.Keys, d.Values = append(d.Keys, said[i]), append(d.Values, said[i+1])
	}
	return d
}

// long is a text of that many bytes.
func long(many int) string { return strings.Repeat("n", many) }

// key is the name of a key by its number.
func key(i int) string { return string([]byte{'a' + byte(i/26%26), 'a' + byte(i%26)}) }

// wide is a block of that many keys, with one value.
func wide(many int, value string) api.Def {
	d := api.Def{Type: "w"}
	for i := range many {
		d.Keys, d.Values = append(d.Keys, key(i)), append(d.Values, value)
	}
	return d
}

// blocks are that many that are the same.
func blocks(many int, d api.Def) []api.Def { return slices.Repeat([]api.Def{d}, many) }

// same holds blocks against each other, part by part.
func same(a, b []api.Def) bool {
	if len(a) != len(b) {
		return false
	}
	for i := range a {
		if a[i].Type != b[i].Type || len(a[i].Keys) != len(b[i].Keys) || len(a[i].Values) != len(b[i].Values) {
			return false
		}
		for k := range a[i].Keys {
			if a[i].Keys[k] != b[i].Keys[k] {
				return false
			}
		}
		for k := range a[i].Values {
			if a[i].Values[k] != b[i].Values[k] {
				return false
			}
		}
	}
	return true
}

// copied are blocks that share no list with others.
func copied(l []api.Def) []api.Def {
	l = slices.Clone(l)
	for i := range l {
		l[i].Keys, l[i].Values = slices.Clone(l[i].Keys), slices.Clone(l[i].Values)
	}
	return l
}

// rightDefs are blocks that may be.
func rightDefs() []api.Def {
	return []api.Def{
		def("a"),
		def("_"),
		def("0"),
		def("z9_"),
		def("define"),
		def(long(64)),
		{Type: "a", Keys: []string{}, Values: []string{}},
		def("a", "a", "a"),
		def("a", "_", "!"),
		def("a", "9", "~"),
		def("a", "k", "}"),
		def("a", "k", "{"),
		def("a", "k", "#"),
		def("a", "k", `\`),
		def("a", "k", `"x"`),
		def("a", "k", "a b"),
		def("a", "k", "a  b"),
		def("a", "k", "define a {"),
		def("a", long(64), long(200)),
		def("a", "k", "a"+strings.Repeat(" ", 198)+"b"),
		def("a", "a", "1", "b", "1"),
		def("a", "b", "1", "a", "2"),
		def("a", "a", "1", "aa", "1", "aaa", "1"),
		def("a", long(63), "1", long(64), "2"),
		wide(63, "x"),
		wide(64, "x"),
		wide(64, long(200)),
	}
}

// wrongDefs are blocks that may not be.
func wrongDefs() []api.Def {
	return []api.Def{
		{},
		def("A"), def("a "), def(" a"), def("a b"), def("a-b"), def("a.b"), def("é"), def("a\n"), def("{"), def("a\x00"), def("\xff"), def("a;"), def("#a"),
		def(long(65)), def(long(8192)), def(long(63) + "A"), def("", "k", "v"),
		{Type: "a", Keys: []string{"k"}},
		{Type: "a", Values: []string{"v"}},
		{Type: "a", Keys: []string{"k"}, Values: []string{}},
		{Type: "a", Keys: []string{"k", "l"}, Values: []string{"v"}},
		{Type: "a", Keys: []string{"k"}, Values: []string{"v", "w"}},
		def("a", "", "v"), def("a", "K", "v"), def("a", "k ", "v"), def("a", " k", "v"), def("a", "k\t", "v"), def("a", "k-l", "v"), def("a", "é", "v"), def("a", "k\n", "v"), def("a", long(65), "v"), def("a", "#k", "v"), def("a", "}", "v"),
		def("a", "k", ""), def("a", "k", " "), def("a", "k", " v"), def("a", "k", "v "), def("a", "k", "  "), def("a", "k", ";"), def("a", "k", "v;"), def("a", "k", "v;w"), def("a", "k", "v ; w"), def("a", "k", ";v"),
		def("a", "k", "v\tw"), def("a", "k", "\tv"), def("a", "k", "v\n"), def("a", "k", "v\r"), def("a", "k", "\x1f"), def("a", "k", "\x7f"), def("a", "k", "v\x7fw"), def("a", "k", "é"), def("a", "k", "\xff"), def("a", "k", "v\x00w"),
		def("a", "k", long(201)), def("a", "k", long(8192)), def("a", "k", long(200)+";"), def("a", "k", "v"+strings.Repeat(" ", 199)+"w"),
		def("a", "k", "v", "k", "v"), def("a", "k", "v", "k", "w"), def("a", "k", "v", "l", "v", "k", "w"), def("a", "k", "1", "l", "2", "m", "3", "m", "4"),
		def("a", "k", "v", "l", ""), def("a", "k", "v", "", "w"), def("a", "k", ";", "l", "w"),
		wide(65, "x"), wide(1000, "x"), wide(65, long(200)),
	}
}

// P6.1: blocks that may be, and how many.
func TestRight(t *testing.T) {
	for _, d := range rightDefs() {
		for _, l := range [][]api.Def{{d}, {d, d}, {def("x"), d, def("y", "k", "v")}, blocks(64, d)} {
			if !Right(l) {
				t.Errorf("%d of %.200v may not be", len(l), d)
			}
		}
	}
	if !Right(nil) || !Right([]api.Def{}) {
		t.Error("none may not be")
	}
	for many := 60; many < 70; many++ {
		if got := Right(blocks(many, def("a"))); got != (many <= 64) {
			t.Errorf("%d blocks may be: %v", many, got)
		}
		if got := Right([]api.Def{wide(many, "x")}); got != (many <= 64) {
			t.Errorf("%d keys may be: %v", many, got)
		}
		if got := Right([]api.Def{def(long(many)), def("a", long(many), "x")}); got != (many <= 64) {
			t.Errorf("words of %d bytes may be: %v", many, got)
		}
	}
	for many := 190; many < 210; many++ {
		if got := Right([]api.Def{def("a", "k", long(many))}); got != (many <= 200) {
			t.Errorf("a value of %d bytes may be: %v", many, got)
		}
	}
}

// P6.1: blocks that may not be, wherever they stand.
func TestRightWrong(t *testing.T) {
	for _, d := range wrongDefs() {
		for _, l := range [][]api.Def{{d}, {d, def("x")}, {def("x"), d}, {def("x"), d, def("y")}, append(blocks(63, def("x")), d)} {
			if Right(l) {
				t.Errorf("%d of %.200v may be", len(l), d)
			}
		}
	}
	for _, l := range [][]api.Def{blocks(65, def("a")), blocks(1<<16, def("a")), append(blocks(64, def("a")), api.Def{})} {
		if Right(l) {
			t.Errorf("%d may be", len(l))
		}
	}
}

// P6.1: each byte, in a word, and in a value, wherever it stands.
func TestRightBytes(t *testing.T) {
	for b := range 256 {
		one := string([]byte{byte(b)})
		ofWord, ofValue := strings.Contains(wordBytes, one), strings.Contains(valueBytes, one)
		for _, s := range []string{one, one + "x", "x" + one, "x" + one + "x"} {
			edge := len(s) < 3 && b == ' '
			if Right([]api.Def{def(s)}) != ofWord || Right([]api.Def{def("a", s, "v")}) != ofWord {
				t.Errorf("%q is no word, or is one", s)
			}
			if Right([]api.Def{def("a", "k", s)}) != (ofValue && !edge) {
				t.Errorf("%q is no value, or is one", s)
			}
		}
	}
}

// P6.1: whether blocks are the same, whether they may be or not.
func TestLike(t *testing.T) {
	half := api.Def{Type: "a", Keys: []string{"k"}}
	all := append(append([]api.Def{half, {}}, rightDefs()...), wrongDefs()...)
	for i, a := range all {
		if l := []api.Def{a, def("x")}; !Like(l, copied(l)) || Like(l, []api.Def{a}) || Like([]api.Def{a}, l) || Like([]api.Def{a}, nil) {
			t.Errorf("%.200v is not like itself, or like others", a)
		}
		for _, b := range all[:i] {
			if a, b := []api.Def{a}, []api.Def{b}; Like(a, b) != same(a, b) || Like(b, a) != same(a, b) {
				t.Errorf("%.200v is like %.200v: %v", a, b, Like(a, b))
			}
		}
	}
	for _, c := range []struct {
		a, b []api.Def
		want bool
	}{
		{nil, nil, true},
		{nil, []api.Def{}, true},
		{nil, []api.Def{{}}, false},
		{[]api.Def{{}}, []api.Def{{Keys: []string{}, Values: []string{}}}, true},
		{[]api.Def{def("a")}, []api.Def{def("b")}, false},
		{[]api.Def{def("a")}, []api.Def{def("a"), def("a")}, false},
		{[]api.Def{def("a"), def("b")}, []api.Def{def("b"), def("a")}, false},
		{[]api.Def{def("a", "k", "v")}, []api.Def{def("a", "k", "w")}, false},
		{[]api.Def{def("a", "k", "v")}, []api.Def{def("a", "l", "v")}, false},
		{[]api.Def{def("a", "k", "v")}, []api.Def{def("b", "k", "v")}, false},
		{[]api.Def{def("a", "k", "v")}, []api.Def{def("a")}, false},
		{[]api.Def{def("a", "k", "v")}, []api.Def{half}, false},
		{[]api.Def{def("a", "k", "1", "l", "2")}, []api.Def{def("a", "l", "2", "k", "1")}, false},
		{[]api.Def{def("a", "k", "1", "l", "2")}, []api.Def{def("a", "k", "2", "l", "1")}, false},
		{[]api.Def{def("a", "k", "1", "l", "2")}, []api.Def{def("a", "k", "1")}, false},
		{[]api.Def{def("a"), def("b", "k", "v")}, []api.Def{def("a"), def("b", "k", "w")}, false},
		{[]api.Def{def("a"), def("b", "k", "v")}, []api.Def{def("a"), def("b", "k", "v")}, true},
	} {
		if Like(c.a, c.b) != c.want || Like(c.b, c.a) != c.want {
			t.Errorf("%v is like %v: %v", c.a, c.b, !c.want)
		}
	}
}

// P6.1: values of keys, whether the block may be or not.
func TestGet(t *testing.T) {
	for _, c := range []struct {
		d    api.Def
		key  string
		want string
	}{
		{def("a", "k", "v"), "k", "v"},
		{def("a", "k", "v", "l", "w"), "k", "v"},
		{def("a", "k", "v", "l", "w"), "l", "w"},
		{def("a", "k", "v", "k", "w"), "k", "v"},
		{def("a", "l", "u", "k", "v", "k", "w"), "k", "v"},
		{def("a", "k", ""), "k", ""},
		{def("a", "", "v"), "", "v"},
		{def("", "K ", ";"), "K ", ";"},
		{api.Def{Keys: []string{"k", "l"}, Values: []string{"v"}}, "k", "v"},
		{api.Def{Keys: []string{"k", "k"}, Values: []string{"v"}}, "k", "v"},
		{api.Def{Keys: []string{"k"}, Values: []string{"v", "w"}}, "k", "v"},
		{wide(600, "x"), key(599), "x"},
	} {
		if got, e := Get(c.d, c.key); got != c.want || e != api.OK {
			t.Errorf("%.200v has of %q: %q, %d, not %q", c.d, c.key, got, e, c.want)
		}
	}
}

// P6.1: keys that a block has not, or has no value of.
func TestGetNone(t *testing.T) {
	for _, c := range []struct {
		d   api.Def
		key string
	}{
		{api.Def{}, ""}, {api.Def{}, "k"}, {def("k"), "k"}, {def("a", "k", "v"), ""}, {def("a", "k", "v"), "v"}, {def("a", "k", "v"), "a"},
		{def("a", "k", "v"), "K"}, {def("a", "k", "v"), "k "}, {def("a", "k", "v"), "kk"}, {def("a", "kk", "v"), "k"},
		{api.Def{Type: "a", Keys: []string{"k"}}, "k"},
		{api.Def{Type: "a", Values: []string{"v"}}, ""},
		{api.Def{Type: "a", Keys: []string{"k", "l"}, Values: []string{"v"}}, "l"},
		{api.Def{Type: "a", Keys: []string{"k", "l", "m"}, Values: []string{"v"}}, "m"},
		{api.Def{Type: "a", Keys: []string{"k", "l", "l"}, Values: []string{"v"}}, "l"},
		{api.Def{Type: "a", Keys: []string{"k"}, Values: []string{"v", "w"}}, "l"},
	} {
		if got, e := Get(c.d, c.key); got != "" || e != api.ErrNone {
			t.Errorf("%v has of %q: %q, %d", c.d, c.key, got, e)
		}
	}
}

// R1, R4: lists that are handed in stay as they were, behind their ends, too, and calls answer the same again.
func TestListsStay(t *testing.T) {
	keys, values := []string{"b", "a", "A"}, []string{"1", "x y", "\n"}
	l := []api.Def{{Type: "t", Keys: keys[:2], Values: values[:2]}, def("u"), {Type: "odd"}}
	whole := copied(append(l, api.Def{Keys: keys, Values: values}))
	const want = "define t {\n\tb\t1\n\ta\tx y\n}\ndefine u {\n}\n"
	for range 2 {
		if got, e := Get(l[0], "a"); got != "x y" || e != api.OK || !Right(l[:2]) || !Like(l, l) {
			t.Errorf("%q, %d", got, e)
		}
		if s, e := Print(l[:2]); s != want || e != api.OK {
			t.Errorf("its text is %q, %d", s, e)
		}
		read, e, line := Parse(want)
		if !same(read, l[:2]) || e != api.OK || line != 0 {
			t.Errorf("%q is read as %v, %d, %d", want, read, e, line)
		}
		read[0].Keys[0], read[0].Values[1], read[1] = "z", "z", api.Def{} // no other answer has that
		if now := append(l, api.Def{Keys: keys, Values: values}); !same(now, whole) {
			t.Errorf("they came to be %v", now)
		}
	}
}

// Lists of one answer share nothing: what is had behind one is in no other one.
func TestListsApart(t *testing.T) {
	l, _, _ := Parse("define a {\n\tk\tv\n\tl\tw\n\tm\tx\n}\ndefine b {\n\tk\tv\n}\n")
	want := copied(l)
	for i := range l {
		_, _ = append(l[i].Keys, "z"), append(l[i].Values, "z")
		for k := range l[i].Keys {
			l[i].Keys[k] += "!"
		}
	}
	for i := range l {
		for k := range l[i].Keys {
			want[i].Keys[k] += "!"
		}
	}
	if !same(l, want) {
		t.Errorf("they came to be %v", l)
	}
}

// randomOf is a text of some bytes, at the least and at the most so long.
func randomOf(r *rand.Rand, bytes string, least, most int) string {
	b := make([]byte, least+r.Intn(most-least+1))
	for i := range b {
		b[i] = bytes[r.Intn(len(bytes))]
	}
	return string(b)
}

// randomBlocks are some that may be.
func randomBlocks(r *rand.Rand) []api.Def {
	var l []api.Def
	for range r.Intn(5) {
		d := api.Def{Type: randomOf(r, wordBytes, 1, 64)}
		for range r.Intn(6) {
			k := randomOf(r, wordBytes, 1, 1+r.Intn(64))
			v := strings.Trim(randomOf(r, valueBytes, 1, 1+r.Intn(200)), " ")
			if v != "" && !slices.Contains(d.Keys, k) {
				d.Keys, d.Values = append(d.Keys, k), append(d.Values, v)
			}
		}
		l = append(l, d)
	}
	return l
}
