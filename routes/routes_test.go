package routes

import (
	"fmt"
	"math"
	"reflect"
	"slices"
	"strconv"
	"strings"
	"testing"

	"transhipment/api"
)

const (
	wordBytes = "abcdefghijklmnopqrstuvwxyz0123456789_"
	nameBytes = "ABCDEFGHIJKLMNOPQRSTUVWXYZabcdefghijklmnopqrstuvwxyz_0123456789"
	notFirst  = "0123456789"
	most      = 1099511627776 // of ticks
)

// plain is a route that may be, and has no more than it must have, beside routes within it.
func plain(receiver string, within ...api.Route) api.Route {
	return api.Route{Receiver: receiver, Every: 1, Repeat: 1, Routes: within}
}

// is is a matcher that holds of the sets in which a name has just that value.
func is(name, value string) api.Matcher {
	return api.Matcher{Name: name, How: api.MIs, Words: []string{value}}
}

// full is a route of which no part is as in one that has nothing.
func full(receiver string, within ...api.Route) api.Route {
	return api.Route{
		Receiver: receiver,
		Match:    []api.Matcher{is("a", "1"), {Name: "b", How: api.MNone, Words: []string{"2", "3"}}},
		By:       []string{"job", "sev"},
		Wait:     5,
		Every:    60,
		Repeat:   700,
		Mute:     []string{"day", "night"},
		On:       true,
		Routes:   within,
	}
}

// tree is a route with others in it, 4 deep, of which all names are others.
func tree() api.Route {
	return full("top",
		full("k0", full("k00", full("k000"), full("k001")), full("k01")),
		full("k1"),
		full("k2", full("k20", full("k200"))),
	)
}

// places are all routes of one, itself first, where they stand.
func places(r *api.Route) []*api.Route {
	l := []*api.Route{r}
	for i := range r.Routes {
		l = append(l, places(&r.Routes[i])...)
	}
	return l
}

// changed are trees, each with one route of it changed, whichever it is.
func changed(change func(r *api.Route)) []api.Route {
	var l []api.Route
	for i := range Count(tree()) {
		r := tree()
		change(places(&r)[i])
		l = append(l, r)
	}
	return l
}

// copied is a route in other memory, whose lists are never nil.
func copied(r api.Route) api.Route {
	r.Match = append([]api.Matcher{}, r.Match...)
	for i := range r.Match {
		r.Match[i].Words = append([]string{}, r.Match[i].Words...)
	}
	r.By, r.Mute = append([]string{}, r.By...), append([]string{}, r.Mute...)
	r.Routes = append([]api.Route{}, r.Routes...)
	for i := range r.Routes {
		r.Routes[i] = copied(r.Routes[i])
	}
	return r
}

// same holds routes against each other, in another way.
func same(a, b api.Route) bool { return reflect.DeepEqual(copied(a), copied(b)) }

// chain is a route in a route, so deep.
func chain(deep int) api.Route {
	r := plain("end")
	for range deep - 1 {
		r = plain("in", r)
	}
	return r
}

// wide are routes that are so many times the same one.
func wide(many int, r api.Route) []api.Route {
	var l []api.Route
	for range many {
		l = append(l, r)
	}
	return l
}

// show is a route as a text, of which no more than its beginning stands.
func show(r api.Route) string {
	s := fmt.Sprint(r)
	return strconv.Quote(s[:min(len(s), 1000)])
}

// long is a text of that many bytes.
func long(many int) string { return strings.Repeat("n", many) }

// letters are words of one letter, so many, from `a` on.
func letters(many int) []string {
	var words []string
	for i := range many {
		words = append(words, string([]byte{'a' + byte(i)}))
	}
	return words
}

// with are changes, each to another one of some values for a thing.
func with[T any](set func(r *api.Route, value T), values ...T) []func(r *api.Route) {
	var l []func(r *api.Route)
	for _, value := range values {
		l = append(l, func(r *api.Route) { set(r, value) })
	}
	return l
}

// The things of a route.
func setReceiver(r *api.Route, s string)      { r.Receiver = s }
func setMatch(r *api.Route, l []api.Matcher)  { r.Match = l }
func setBy(r *api.Route, l []string)          { r.By = l }
func setWait(r *api.Route, n int)             { r.Wait = n }
func setEvery(r *api.Route, n int)            { r.Every = n }
func setRepeat(r *api.Route, n int)           { r.Repeat = n }
func setMute(r *api.Route, l []string)        { r.Mute = l }
func setOn(r *api.Route, on bool)             { r.On = on }
func setRoutes(r *api.Route, l []api.Route)   { r.Routes = l }
func setOneBy(r *api.Route, name string)      { r.By = []string{name} }
func setOneMute(r *api.Route, word string)    { r.Mute = []string{word} }
func setOneMatch(r *api.Route, m api.Matcher) { r.Match = []api.Matcher{m} }

// right are changes behind which a route may be.
func right() []func(r *api.Route) {
	return slices.Concat(
		with(setReceiver, "x", "_", "0", "9a", wordBytes, long(64), "top"),
		with(setMatch, nil, []api.Matcher{}, []api.Matcher{is("b", "1"), is("a", "1")}, []api.Matcher{is("a", "1"), is("a", "1")}, []api.Matcher{is("a", "1"), is("a", "2")}),
		with(setOneMatch, is("Alert", ""), is(long(64), "A.b/c:d-e"), api.Matcher{Name: "_", How: api.MOne, Words: letters(8)}, api.Matcher{Name: "a", How: api.MNot, Words: []string{long(64)}}),
		with(setBy, nil, []string{}, letters(1), letters(7), letters(8), []string{"Z", "_", "a", "aa", "ab", "b0"}, []string{"alert"}, []string{long(63), long(64)}),
		with(setWait, 0, 1, most-1, most),
		with(setEvery, 1, 2, most-1, most),
		with(setRepeat, 1, 2, most-1, most),
		with(setMute, nil, []string{}, letters(1), letters(7), letters(8), []string{"0", "9", "_", "a", "aa", "b"}, []string{long(63), long(64)}),
		with(setOn, true, false),
	)
}

// wrong are changes behind which a route may not be, and would, if one thing were another.
func wrong() []func(r *api.Route) {
	words := []string{"", "A", "x ", " x", "x y", "x-y", "x.y", "é", "x\n", "\x00", "\xff", "x;", long(65), long(10000), long(63) + "N"}
	names := []string{"", "1", "0a", "a-", "a b", "a ", "é", "a\n", "\x00", "\xff", "a.b", long(65), long(10000)}
	far := []int{-1, -most, math.MinInt, most + 1, 2 * most, math.MaxInt}
	return slices.Concat(
		with(setReceiver, words...),
		with(setOneMatch, api.Matcher{}, is("", "1"), is("1", "1"), is("a", " "), is("a", long(65)), api.Matcher{Name: "a", How: api.MIs}, api.Matcher{Name: "a", How: api.MOne},
			api.Matcher{Name: "a", How: 5, Words: []string{"1"}}, api.Matcher{Name: "a", How: api.MNot, Words: []string{"1", "2"}}, api.Matcher{Name: "a", How: api.MNone, Words: []string{"2", "1"}}, api.Matcher{Name: "a", How: api.MOne, Words: letters(9)}),
		with(setOneBy, names...),
		with(setBy, letters(9), letters(20), []string{"b", "a"}, []string{"a", "a"}, []string{"a", "Z"}, []string{"a", "c", "b"}, []string{"a", "b", "b"}, []string{"aa", "a"}),
		with(setOneMute, words...),
		with(setMute, letters(9), letters(20), []string{"b", "a"}, []string{"a", "a"}, []string{"a", "0"}, []string{"a", "c", "b"}, []string{"a", "b", "b"}, []string{"aa", "a"}),
		with(setWait, far...),
		with(setEvery, append(far, 0)...),
		with(setRepeat, append(far, 0)...),
		with(setRoutes, wide(17, plain("x")), wide(200, plain("x")), []api.Route{{}}, []api.Route{plain("x"), {}, plain("y")}, []api.Route{chain(4)}),
	)
}

// P9.1: routes that may be, whichever of a tree is changed.
func TestRight(t *testing.T) {
	if !Right(plain("a")) || !Right(full("a")) || !Right(tree()) {
		t.Error("none may be")
	}
	for i, change := range right() {
		for j, r := range changed(change) {
			if !Right(r) {
				t.Errorf("change %d at place %d: %s may not be", i, j, show(r))
			}
		}
	}
}

// P9.1, P9.2, P1: routes that may not be, whichever of a tree is changed: labels lead nowhere, whatever they are.
func TestWrong(t *testing.T) {
	if Right(api.Route{}) {
		t.Error("nothing may be")
	}
	for i, change := range wrong() {
		for j, r := range changed(change) {
			if Right(r) {
				t.Errorf("change %d at place %d: %s may be", i, j, show(r))
			}
			for _, l := range [][]api.Label{nil, {{Name: "a", Value: "1"}}, {{Name: "a", Value: "2"}}, {{Name: "", Value: ""}}} {
				if got, e := Find(r, l); len(got) != 0 || e != api.ErrArg {
					t.Errorf("change %d at place %d: %v lead to %v, %d", i, j, l, got, e)
				}
			}
			if !Like(r, r) || Like(r, tree()) || Like(tree(), r) {
				t.Errorf("change %d at place %d: %s is like another one, or not like itself", i, j, show(r))
			}
		}
	}
}

// P9.1: each byte of a receiver, of a name and of a word of Mute, and how long they are.
func TestRightTexts(t *testing.T) {
	for _, c := range []struct {
		set         func(r *api.Route, s string)
		bytes, only string // bytes that may be, and those of them that may not be the first
	}{
		{setReceiver, wordBytes, ""},
		{setOneMute, wordBytes, ""},
		{setOneBy, nameBytes, notFirst},
	} {
		asks := func(text string) bool {
			r := plain("a")
			c.set(&r, text)
			return Right(r)
		}
		for b := range 256 {
			one := string([]byte{byte(b)})
			within := strings.Contains(c.bytes, one)
			first := within && !strings.Contains(c.only, one)
			for text, want := range map[string]bool{one: first, one + "x": first, "x" + one: within, "x" + one + "x": within} {
				if got := asks(text); got != want {
					t.Errorf("%q may be: %v", text, got)
				}
			}
		}
		for many := range 200 {
			if got := asks(long(many)); got != (many >= 1 && many <= 64) {
				t.Errorf("a text of %d bytes may be: %v", many, got)
			}
		}
	}
}

// P9.1: names of By and words of Mute rise, all of them.
func TestRightRises(t *testing.T) {
	for _, set := range []func(r *api.Route, l []string){setBy, setMute} {
		for many := range 12 {
			for i := range many {
				for j := range many {
					l := letters(many)
					l[j] = l[i]
					r := plain("a")
					set(&r, l)
					if got := Right(r); got != (i == j && many <= 8) {
						t.Errorf("%q may be: %v", l, got)
					}
				}
			}
		}
	}
}

// P9.1: numbers, about the least and the greatest.
func TestRightNumbers(t *testing.T) {
	for _, c := range []struct {
		set   func(r *api.Route, n int)
		least int
	}{{setWait, 0}, {setEvery, 1}, {setRepeat, 1}} {
		for off := -20; off <= 20; off++ {
			for _, n := range []int{off, most + off, 1<<32 + off, -most + off} {
				r := plain("a")
				c.set(&r, n)
				if got := Right(r); got != (n >= c.least && n <= most) {
					t.Errorf("%d, of %d on, may be: %v", n, c.least, got)
				}
			}
		}
	}
}

// P9.1: how many matchers there may be, and a wrong one at each place.
func TestRightMatch(t *testing.T) {
	for many := range 20 {
		r := plain("a")
		for range many {
			r.Match = append(r.Match, is("a", "1"))
		}
		if got := Right(r); got != (many <= 8) {
			t.Errorf("%d matchers may be: %v", many, got)
		}
		for i := range many {
			r.Match[i].How = 0
			if Right(r) {
				t.Errorf("matcher %d of %d is wrong, and may be", i, many)
			}
			r.Match[i].How = api.MIs
		}
	}
}

// P9.1: how many routes there may be within one, and a wrong one at each place.
func TestRightRoutes(t *testing.T) {
	for many := range 40 {
		r := plain("a", wide(many, plain("b", plain("c")))...)
		if got := Right(r); got != (many <= 16) {
			t.Errorf("%d routes may be within one: %v", many, got)
		}
		for i := range many {
			r.Routes[i].Every = 0
			if Right(r) {
				t.Errorf("route %d of %d is wrong, and may be", i, many)
			}
			r.Routes[i].Every = 1
		}
	}
	if !Right(plain("a", wide(16, plain("b", wide(16, plain("c", wide(16, plain("d"))...))...))...)) {
		t.Error("16 within 16 within 16 may not be")
	}
}

// P9.1: how deep a route may be.
func TestRightDeep(t *testing.T) {
	for deep := 1; deep < 20; deep++ {
		if got := Right(chain(deep)); got != (deep <= 4) {
			t.Errorf("%d deep may be: %v", deep, got)
		}
		if got := Right(plain("a", plain("b"), plain("c", plain("d"), chain(deep)), plain("e"))); got != (deep <= 2) {
			t.Errorf("2 and %d deep may be: %v", deep, got)
		}
	}
}

// P9.1, P9.2, P1: a route that holds itself may not be.
func TestRightWithin(t *testing.T) {
	for _, many := range []int{1, 2, 16, 17} {
		r := plain("a", wide(many, plain("b"))...)
		for i := range r.Routes {
			r.Routes[i].Routes = r.Routes
		}
		if Right(r) {
			t.Errorf("%d routes that hold themselves may be", many)
		}
		if got, e := Find(r, nil); len(got) != 0 || e != api.ErrArg {
			t.Errorf("%d routes that hold themselves: %d targets, %d", many, len(got), e)
		}
		if Like(r, tree()) || Like(chain(5), r) {
			t.Errorf("%d routes that hold themselves are like another one", many)
		}
	}
}

// P9.1: two routes are the same, if all is, whichever of a tree is changed.
func TestLike(t *testing.T) {
	for i, change := range slices.Concat(
		with(setReceiver, "", "x", "to", "topp", "K0"),
		with(setMatch, nil, full("").Match[:1], full("").Match[1:], append(full("").Match, is("c", "3")), []api.Matcher{full("").Match[1], full("").Match[0]}),
		with(func(r *api.Route, m api.Matcher) { r.Match[0] = m }, is("b", "1"), is("a", "2"), is("a", ""), api.Matcher{Name: "a", How: api.MOne, Words: []string{"1"}}),
		with(func(r *api.Route, words []string) { r.Match[1].Words = words }, nil, []string{"2"}, []string{"3"}, []string{"3", "2"}, []string{"2", "3", "4"}, []string{"2", "4"}),
		with(setBy, nil, []string{"job"}, []string{"sev"}, []string{"sev", "job"}, []string{"job", "se"}, []string{"job", "sev", "x"}, []string{"a", "job", "sev"}, []string{"day", "night"}),
		with(setWait, 0, 4, 6, -5, 60, 700, 5+1<<32),
		with(setEvery, 0, 59, 61, -60, 5, 700, 60+1<<32),
		with(setRepeat, 0, 699, 701, -700, 5, 60, 700+1<<32),
		with(setMute, nil, []string{"day"}, []string{"night"}, []string{"night", "day"}, []string{"day", "nigh"}, []string{"day", "night", "x"}, []string{"a", "day", "night"}, []string{"job", "sev"}),
		with(setOn, false),
		with(func(r *api.Route, more api.Route) { r.Routes = append(r.Routes, more) }, api.Route{}, plain("x"), full("x")),
		with(func(r *api.Route, more api.Route) { r.Routes = append([]api.Route{more}, r.Routes...) }, api.Route{}, plain("x"), full("x")),
	) {
		for j, r := range changed(change) {
			if Like(r, tree()) || Like(tree(), r) {
				t.Errorf("change %d at place %d: %s is like the tree", i, j, show(r))
			}
			if !Like(r, r) || !Like(r, copied(r)) || !Like(copied(r), r) {
				t.Errorf("change %d at place %d: %s is not like itself", i, j, show(r))
			}
		}
	}
	for _, change := range right() {
		for _, r := range changed(change) {
			if !Like(r, copied(r)) || !Like(copied(r), r) || Like(r, tree()) != same(r, tree()) {
				t.Errorf("%s is not like itself, or not as like the tree as it is", show(r))
			}
		}
	}
	if !Like(api.Route{}, copied(api.Route{})) || !Like(copied(api.Route{}), api.Route{}) || !Like(api.Route{}, api.Route{}) {
		t.Error("no lists are not like empty ones")
	}
}

// P9.1: routes of the same names that stand otherwise are others.
func TestLikeShape(t *testing.T) {
	l := []api.Route{
		plain("a", plain("b", plain("c", plain("d")))),
		plain("a", plain("b", plain("c"), plain("d"))),
		plain("a", plain("b", plain("c")), plain("d")),
		plain("a", plain("b"), plain("c", plain("d"))),
		plain("a", plain("b"), plain("c"), plain("d")),
		plain("a", plain("c"), plain("b"), plain("d")),
		plain("a", plain("b"), plain("d"), plain("c")),
		plain("a", plain("b"), plain("c")),
		plain("a", plain("b")),
		plain("a"),
	}
	for i, a := range l {
		for j, b := range l {
			if Like(a, b) != (i == j) {
				t.Errorf("%s is like %s: %v", show(a), show(b), i != j)
			}
		}
	}
}

// P9.1: how many routes it is.
func TestCount(t *testing.T) {
	for _, c := range []struct {
		r    api.Route
		want int
	}{
		{api.Route{}, 1},
		{plain("a"), 1},
		{plain("a", plain("a")), 2},
		{plain("a", plain("b"), plain("c")), 3},
		{chain(4), 4},
		{chain(9), 9},
		{tree(), 10},
		{plain("a", tree(), tree(), api.Route{}), 22},
		{plain("a", wide(16, plain("b"))...), 17},
		{plain("a", wide(100, chain(3))...), 301},
		{plain("a", wide(16, plain("b", wide(16, plain("c", wide(16, plain("d"))...))...))...), 4369},
	} {
		if got := Count(c.r); got != c.want {
			t.Errorf("%s is %d routes, not %d", show(c.r), got, c.want)
		}
	}
	for _, change := range slices.Concat(right(), wrong()) {
		for _, r := range changed(change) {
			if got := Count(r); got != len(places(&r)) {
				t.Errorf("%s is %d routes", show(r), got)
			}
		}
	}
}

// muted is a route that has no more than it must have, but words of Mute, and routes within it.
func muted(receiver, words string, within ...api.Route) api.Route {
	r := plain(receiver, within...)
	r.Mute = strings.Fields(words)
	return r
}

// P9.1: names, each once, in the order in which they come.
func TestNames(t *testing.T) {
	for _, c := range []struct {
		r               api.Route
		receivers, mute string
	}{
		{plain("a"), "a", ""},
		{muted("a", "x y"), "a", "x y"},
		{muted("a", "x", muted("a", "x")), "a", "x"},
		{muted("z", "y z", muted("y", "x z"), muted("x", "a y")), "z y x", "y z x a"},
		{muted("b", "", muted("a", "n", muted("c", "m"), muted("b", "n")), muted("d", "k m"), muted("c", "")), "b a c d", "n m k"},
		{muted("a", "b", muted("b", "a")), "a b", "b a"},
		{muted("a", "z", muted("b", "y", muted("c", "x", muted("d", "w"))), muted("e", "v")), "a b c d e", "z y x w v"},
		{tree(), "top k0 k00 k000 k001 k01 k1 k2 k20 k200", "day night"},
		{chain(4), "in end", ""},
		{plain("a", wide(16, plain("b", wide(16, plain("c", wide(16, plain("d"))...))...))...), "a b c d", ""},
		{muted("A-", "b a b B", muted("A-", "c a")), "A-", "b a B c"}, // one that may not be
		{plain("a", chain(9)), "a in end", ""},
	} {
		receivers, mute := Names(c.r)
		if !slices.Equal(receivers, strings.Fields(c.receivers)) || !slices.Equal(mute, strings.Fields(c.mute)) {
			t.Errorf("the names of %s are %q, %q", show(c.r), receivers, mute)
		}
	}
	if receivers, mute := Names(plain("a", api.Route{}, plain("b", api.Route{}))); !slices.Equal(receivers, []string{"a", "", "b"}) || len(mute) != 0 {
		t.Errorf("%q, %q", receivers, mute)
	}
}

// P9.1: many names.
func TestNamesMany(t *testing.T) {
	var want []string
	name := func(b ...byte) string {
		want = append(want, string(b))
		return string(b)
	}
	r := muted(name('t'), "t")
	for i := range byte(16) {
		one := muted(name('a'+i), string([]byte{'a' + i}))
		for j := range byte(16) {
			two := muted(name('a'+i, 'a'+j), string([]byte{'a' + i, 'a' + j}))
			for k := range byte(16) {
				three := name('a'+i, 'a'+j, 'a'+k)
				two.Routes = append(two.Routes, muted(three, three))
			}
			one.Routes = append(one.Routes, two)
		}
		r.Routes = append(r.Routes, one)
	}
	receivers, mute := Names(r)
	if !Right(r) || len(want) != 4369 || !slices.Equal(receivers, want) || !slices.Equal(mute, want) {
		t.Errorf("%d and %d names of %d", len(receivers), len(mute), len(want))
	}
}

// P1: routes that are very deep have an end, too.
func TestDeep(t *testing.T) {
	r := chain(65000)
	receivers, mute := Names(r)
	if Right(r) || Count(r) != 65000 || !slices.Equal(receivers, []string{"in", "end"}) || len(mute) != 0 {
		t.Errorf("%d routes, %q, %q", Count(r), receivers, mute)
	}
	if !Like(r, chain(65000)) || Like(r, chain(64999)) || Like(chain(64999), r) {
		t.Error("it is like another one, or not like itself")
	}
}

// Ways: what is gathered may be of any kind that is held against its like.
func TestGather(t *testing.T) {
	many := func(r api.Route) []int { return []int{len(r.Routes), len(r.Receiver)} }
	if got := gather(tree(), many); !slices.Equal(got, []int{3, 2, 0, 4, 1}) {
		t.Error(got)
	}
}
