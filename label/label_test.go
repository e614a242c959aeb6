package label

import (
	"math/rand"
	"slices"
	"strings"
	"testing"

	"transhipment/api"
)

// pairs are labels of names and values, one behind the other, in that order, whether they may be or not.
func pairs(words ...string) []api.Label {
	var l []api.Label
	for i := 0; i < len(words); i += 2 {
		l = append(l, api.Label{Name: words[i], Value: words[i+1]})
	}
	return l
}

// lettered are labels of one-letter names from one on, so many, each of the value given.
func lettered(from byte, many int, value string) []api.Label {
	var l []api.Label
	for i := range many {
		l = append(l, api.Label{Name: string([]byte{from + byte(i)}), Value: value})
	}
	return l
}

// long is a text of that many bytes.
func long(many int) string { return strings.Repeat("n", many) }

const (
	nameBytes  = "ABCDEFGHIJKLMNOPQRSTUVWXYZabcdefghijklmnopqrstuvwxyz_0123456789"
	notFirst   = "0123456789"
	valueBytes = " !\"#$%&'()*+,-./0123456789:;<=>?@ABCDEFGHIJKLMNOPQRSTUVWXYZ[\\]^_`abcdefghijklmnopqrstuvwxyz{|}~"
)

// randomOf is a text of some bytes, at the least and at the most so long.
func randomOf(r *rand.Rand, bytes string, least, most int) string {
	b := make([]byte, least+r.Intn(most-least+1))
	for i := range b {
		b[i] = bytes[r.Intn(len(bytes))]
	}
	return string(b)
}

// randomSet is a set that may be, whose names are often the same ones from set to set.
func randomSet(r *rand.Rand, most int) []api.Label {
	values := map[string]string{}
	for range r.Intn(most + 1) {
		name := string([]byte{"abcdefghijklmnop_Z"[r.Intn(18)]})
		if r.Intn(4) == 0 {
			name += randomOf(r, nameBytes, 0, 63)
		}
		values[name] = randomOf(r, valueBytes, 1, 1+r.Intn(64))
	}
	return setOf(values)
}

// setOf is the set of names with values.
func setOf(values map[string]string) []api.Label {
	var names []string
	for name := range values {
		names = append(names, name)
	}
	slices.Sort(names)
	var l []api.Label
	for _, name := range names {
		l = append(l, api.Label{Name: name, Value: values[name]})
	}
	return l
}

// randomList is a list that mostly is no set.
func randomList(r *rand.Rand) []api.Label {
	l := make([]api.Label, r.Intn(12))
	for i := range l {
		l[i] = api.Label{Name: randomOf(r, "ab_1- \xff", 0, 3), Value: randomOf(r, "v\"\\\x00\xff", 0, 70)}
	}
	return l
}

// badLists are lists that are no sets, and would be if one thing were another.
func badLists() [][]api.Label {
	return [][]api.Label{
		lettered('a', 9, "v"),
		pairs("", "v"),
		pairs("a", ""),
		pairs("1", "v"),
		pairs("a-", "v"),
		pairs("a", "\x1f"),
		pairs("a", "\x7f"),
		pairs(long(65), "v"),
		pairs("a", long(65)),
		pairs("a", "v", "a", "v"),
		pairs("a", "v", "a", "w"),
		pairs("b", "v", "a", "v"),
		pairs("a", "v", "c", "v", "b", "v"),
		pairs("a", "v", "b", ""),
	}
}

// P3.1: sets that may be, and lists that may not.
func TestRight(t *testing.T) {
	for _, l := range [][]api.Label{
		nil,
		{},
		pairs("a", "v"),
		pairs("_", " "),
		pairs("A", "\"\\"),
		pairs("a1", "~"),
		pairs(long(64), long(64)),
		pairs("a", "v", "b", "v"),
		pairs("a", "w", "b", "v"),
		pairs("A", "v", "Z", "v", "_", "v", "a", "v", "a0", "v", "aA", "v", "a_", "v", "aa", "v"),
		lettered('a', 8, "v"),
	} {
		if !Right(l) {
			t.Errorf("%q may not be", l)
		}
	}
	for _, l := range append(badLists(), pairs("aa", "v", "a", "v"), pairs("a", "v", "_", "v"), pairs("a", "v", "Z", "v")) {
		if Right(l) {
			t.Errorf("%q may be", l)
		}
	}
}

// P3.1: each byte, as a name's first one and a further one, and in a value.
func TestBytes(t *testing.T) {
	for b := range 256 {
		s := string([]byte{byte(b)})
		name, value := strings.Contains(nameBytes, s), strings.Contains(valueBytes, s)
		first := name && !strings.Contains(notFirst, s)
		for _, c := range []struct {
			l    []api.Label
			want bool
		}{
			{pairs(s, "v"), first},
			{pairs(s+"a", "v"), first},
			{pairs("a"+s, "v"), name},
			{pairs("a"+s+"a", "v"), name},
			{pairs("a", s), value},
			{pairs("a", s+"v"), value},
			{pairs("a", "v"+s), value},
		} {
			want := api.OK
			if !c.want {
				want = api.ErrArg
			}
			if _, e := New(c.l...); Right(c.l) != c.want || e != want {
				t.Errorf("%q may be: %v; as a set: %d", c.l, Right(c.l), e)
			}
		}
	}
}

// P3.1: labels in any order make one set.
func TestNew(t *testing.T) {
	want := pairs("A", "4", "_", "3", "a", "2", "aa", "1", "b", "0")
	r := rand.New(rand.NewSource(1))
	for range 300 {
		l := slices.Clone(want)
		r.Shuffle(len(l), func(i, j int) { l[i], l[j] = l[j], l[i] })
		if got, e := New(l...); !slices.Equal(got, want) || e != api.OK {
			t.Fatalf("%q make %q, %d", l, got, e)
		}
	}
	for _, l := range [][]api.Label{nil, {}, lettered('a', 8, "v"), pairs(long(64), long(64))} {
		if got, e := New(l...); !slices.Equal(got, l) || e != api.OK {
			t.Errorf("%q make %q, %d", l, got, e)
		}
	}
}

// P3.1: what makes no set, and which error comes first.
func TestNewWrong(t *testing.T) {
	for _, c := range []struct {
		l    []api.Label
		want api.Errno
	}{
		{lettered('a', 9, "v"), api.ErrLong},
		{lettered('a', 9, ""), api.ErrLong},
		{append(lettered('a', 8, "v"), pairs("a", "v")...), api.ErrLong},
		{pairs("", "v"), api.ErrArg},
		{pairs("a", ""), api.ErrArg},
		{pairs(long(65), "v"), api.ErrArg},
		{pairs("a", long(65)), api.ErrArg},
		{pairs("a", "v", "a", "v", "b", ""), api.ErrArg},
		{pairs("1", "v", "a", "v", "a", "v"), api.ErrArg},
		{pairs("", "v", "", "v"), api.ErrArg},
		{pairs("a", "v", "a", "v"), api.ErrTwice},
		{pairs("a", "v", "a", "w"), api.ErrTwice},
		{pairs("a", "v", "b", "w", "a", "x"), api.ErrTwice},
		{append(lettered('a', 7, "v"), pairs("a", "w")...), api.ErrTwice},
	} {
		if got, e := New(c.l...); len(got) != 0 || e != c.want {
			t.Errorf("%q make %q, %d, not %d", c.l, got, e, c.want)
		}
	}
}

// P3.1: the first label of a name, of lists that are no sets, too.
func TestGet(t *testing.T) {
	for _, c := range []struct {
		l          []api.Label
		name, want string
	}{
		{nil, "a", ""},
		{nil, "", ""},
		{pairs("a", "v", "b", "w"), "a", "v"},
		{pairs("a", "v", "b", "w"), "b", "w"},
		{pairs("a", "v", "b", "w"), "c", ""},
		{pairs("a", "v", "b", "w"), "", ""},
		{pairs("a", "v", "b", "w"), "A", ""},
		{pairs("aa", "v"), "a", ""},
		{pairs("a", "v"), "aa", ""},
		{pairs("b", "1", "a", "2", "b", "3"), "b", "1"},
		{pairs("c", "1", "b", "2", "a", "3"), "a", "3"},
		{pairs("b", "", "b", "3"), "b", ""},
		{pairs("", "v", "-", "\xff"), "", "v"},
		{pairs("", "v", "-", "\xff"), "-", "\xff"},
		{append(lettered('a', 20, "v"), pairs("z", "w")...), "z", "w"},
	} {
		if got := Get(c.l, c.name); got != c.want {
			t.Errorf("%q of %q is %q, not %q", c.name, c.l, got, c.want)
		}
	}
}

// P3.3: one set laid over another one.
func TestWith(t *testing.T) {
	for _, c := range []struct{ l, over, want []api.Label }{
		{nil, nil, nil},
		{pairs("a", "1"), nil, pairs("a", "1")},
		{nil, pairs("a", "1"), pairs("a", "1")},
		{pairs("a", "1"), pairs("a", "2"), pairs("a", "2")},
		{pairs("a", "1"), pairs("b", "2"), pairs("a", "1", "b", "2")},
		{pairs("b", "1"), pairs("a", "2"), pairs("a", "2", "b", "1")},
		{pairs("a", "1", "c", "1", "e", "1"), pairs("b", "2", "c", "2", "d", "2"), pairs("a", "1", "b", "2", "c", "2", "d", "2", "e", "1")},
		{lettered('a', 8, "1"), lettered('a', 8, "2"), lettered('a', 8, "2")},
		{lettered('a', 8, "1"), pairs("h", "2"), append(lettered('a', 7, "1"), pairs("h", "2")...)},
		{pairs("h", "1"), lettered('a', 8, "2"), lettered('a', 8, "2")},
		{lettered('a', 4, "1"), lettered('e', 4, "1"), lettered('a', 8, "1")},
		{lettered('a', 6, "1"), lettered('c', 6, "2"), append(lettered('a', 2, "1"), lettered('c', 6, "2")...)},
	} {
		if got, e := With(c.l, c.over); !slices.Equal(got, c.want) || e != api.OK {
			t.Errorf("%q, with %q laid over, is %q, %d, not %q", c.l, c.over, got, e, c.want)
		}
	}
}

// P3.3: what is no set, laid over or under, and one label too many.
func TestWithWrong(t *testing.T) {
	for _, bad := range badLists() {
		for _, good := range [][]api.Label{nil, pairs("z", "v"), lettered('p', 8, "v")} {
			if got, e := With(bad, good); len(got) != 0 || e != api.ErrArg {
				t.Errorf("%q, with %q laid over, is %q, %d", bad, good, got, e)
			}
			if got, e := With(good, bad); len(got) != 0 || e != api.ErrArg {
				t.Errorf("%q, with %q laid over, is %q, %d", good, bad, got, e)
			}
		}
	}
	for _, c := range [][2][]api.Label{
		{lettered('a', 8, "v"), pairs("i", "v")},
		{pairs("i", "v"), lettered('a', 8, "v")},
		{lettered('a', 8, "v"), lettered('b', 8, "w")},
		{lettered('a', 5, "v"), lettered('f', 4, "v")},
	} {
		if got, e := With(c[0], c[1]); len(got) != 0 || e != api.ErrLong {
			t.Errorf("%q, with %q laid over, is %q, %d", c[0], c[1], got, e)
		}
	}
}

// P3.3: what a set has of names.
func TestKeep(t *testing.T) {
	l := pairs("a", "1", "b", "2", "c", "3")
	for _, c := range []struct {
		l     []api.Label
		names []string
		want  []api.Label
	}{
		{nil, nil, nil},
		{nil, []string{"a"}, nil},
		{l, nil, nil},
		{l, []string{}, nil},
		{l, []string{"a"}, pairs("a", "1")},
		{l, []string{"c", "a"}, pairs("a", "1", "c", "3")},
		{l, []string{"c", "a", "c", "c"}, pairs("a", "1", "c", "3")},
		{l, []string{"c", "b", "a"}, l},
		{l, []string{"", "A", "aa", "-", "\xff", "1"}, nil},
		{l, []string{"d", "", "b", "0"}, pairs("b", "2")},
		{l, strings.Split(strings.Repeat("x,", 100)+"b", ","), pairs("b", "2")},
	} {
		if got, e := Keep(c.l, c.names...); !slices.Equal(got, c.want) || e != api.OK {
			t.Errorf("%q of %q are %q, %d, not %q", c.names, c.l, got, e, c.want)
		}
	}
	for _, bad := range badLists() {
		for _, names := range [][]string{nil, {"a"}, {"z"}} {
			if got, e := Keep(bad, names...); len(got) != 0 || e != api.ErrArg {
				t.Errorf("%q of %q are %q, %d", names, bad, got, e)
			}
		}
	}
}

// P3.4: over's values stand, all names are there, and what is kept of all names is the set.
func TestWithAndKeepOfAny(t *testing.T) {
	r := rand.New(rand.NewSource(2))
	full := 0
	for range 20000 {
		l, over := randomSet(r, 8), randomSet(r, 8)
		values := map[string]string{}
		var names []string
		for _, x := range append(slices.Clone(l), over...) {
			values[x.Name] = x.Value
			names = append([]string{x.Name}, names...)
		}
		want, wantE := setOf(values), api.OK
		if len(want) > 8 {
			full++
			want, wantE = nil, api.ErrLong
		}
		all, e := With(l, over)
		if !slices.Equal(all, want) || e != wantE || !Right(all) {
			t.Fatalf("%q, with %q laid over, is %q, %d", l, over, all, e)
		}
		for _, set := range [][]api.Label{l, over, all} {
			if kept, e := Keep(set, names...); !slices.Equal(kept, set) || e != api.OK {
				t.Fatalf("%q of %q are %q, %d", names, set, kept, e)
			}
		}
	}
	if full < 1000 || full > 15000 {
		t.Errorf("%d had too many", full)
	}
}

// P1, R1, R2: whatever is handed in, each call ends, answers the same again, and has nothing beside an error.
func TestAnyLists(t *testing.T) {
	r := rand.New(rand.NewSource(3))
	for range 20000 {
		l, over, name := randomList(r), randomList(r), randomOf(r, "ab_1-", 0, 2)
		for _, call := range []func() ([]api.Label, api.Errno){
			func() ([]api.Label, api.Errno) { return New(l...) },
			func() ([]api.Label, api.Errno) { return With(l, over) },
			func() ([]api.Label, api.Errno) { return Keep(l, name, Get(over, name)) },
			func() ([]api.Label, api.Errno) {
				text, e := Text(l)
				return pairs(text, ""), e
			},
		} {
			got, e := call()
			if e != api.OK && len(got) != 0 && got[0].Name != "" {
				t.Fatalf("%q, of %q and %q, beside %d", got, l, over, e)
			}
			if again, e2 := call(); !slices.Equal(again, got) || e2 != e {
				t.Fatalf("%q, of %q and %q, comes to be %q", got, l, over, again)
			}
		}
	}
}

// R4: lists that are handed in stay as they were, behind their ends, too; what is answered shares nothing with them.
func TestListsStay(t *testing.T) {
	l := pairs("c", "1", "b", "2", "a", "3", "d", "4")
	set, over := pairs("a", "1", "c", "2", "d", "3", "z", "4"), pairs("b", "5", "c", "6", "y", "7", "z", "8")
	names := []string{"c", "a", "b", "d"}
	was := [][]api.Label{slices.Clone(l), slices.Clone(set), slices.Clone(over)}
	made, _ := New(l[:3]...)
	with, _ := With(set[:3], over[:2])
	alone, _ := With(set[:3], nil)
	kept, _ := Keep(set[:3], names[:3]...)
	laid, _ := With(nil, over[:3])
	for _, got := range [][]api.Label{made, with, alone, kept, laid} {
		for i := range got {
			got[i] = api.Label{Name: "other"}
		}
		_ = append(got, api.Label{Name: "more"})
	}
	Text(set[:3])
	Get(l[:3], "a")
	for i, now := range [][]api.Label{l, set, over} {
		if !slices.Equal(now, was[i]) {
			t.Errorf("%q came to be %q", was[i], now)
		}
	}
	if !slices.Equal(names, []string{"c", "a", "b", "d"}) {
		t.Errorf("names came to be %q", names)
	}
}

// Ways: labels are sorted, and sought, by these.
func TestEntries(t *testing.T) {
	order, named := entry.order, entry.named
	a, b := entry(api.Label{Name: "a", Value: "2"}), entry(api.Label{Name: "b", Value: "1"})
	if order(a, b) >= 0 || order(b, a) <= 0 || order(a, entry(api.Label{Name: "a", Value: "3"})) != 0 {
		t.Error("entries are not held against each other by their names")
	}
	if !named(a, "a") || named(a, "2") || named(a, "") {
		t.Error("an entry has another name")
	}
}
