package routes

import (
	"math/rand"
	"slices"
	"strconv"
	"strings"
	"testing"

	"transhipment/api"
)

// pairs are labels of names and values, one behind the other, in that order, whether they may be or not.
func pairs(words ...string) []api.Label {
	var l []api.Label
	for i := 0; i < len(words); i += 2 {
		l = append(l, api.Label{Name: words[i], Value: words[i+1]})
	}
	return l
}

// of is a route of some matchers, that no other one behind it is asked beside.
func of(receiver string, match []api.Matcher, within ...api.Route) api.Route {
	r := plain(receiver, within...)
	r.Match = match
	return r
}

// on is a route of some matchers, behind which others are asked, too.
func on(receiver string, match []api.Matcher, within ...api.Route) api.Route {
	r := of(receiver, match, within...)
	r.On = true
	return r
}

// one is the list of a matcher alone.
func one(name, value string) []api.Matcher { return []api.Matcher{is(name, value)} }

// placed is the route of one that stands at a place, which tells where to go at each step.
func placed(r api.Route, place []int) api.Route {
	for _, i := range place {
		r = r.Routes[i]
	}
	return r
}

// pathOf is the path of a place.
func pathOf(place []int) string {
	path := ""
	for _, i := range place {
		path += "." + strconv.Itoa(i)
	}
	return path
}

// allPlaces are the places of all routes of one, each ahead of those within it.
func allPlaces(r api.Route) [][]int {
	var l [][]int
	left := [][]int{nil}
	for len(left) > 0 {
		place := left[len(left)-1]
		l, left = append(l, place), left[:len(left)-1]
		for i := len(placed(r, place).Routes) - 1; i >= 0; i-- {
			left = append(left, append(slices.Clone(place), i))
		}
	}
	return l
}

// trueHolds tells whether all Match of a route hold, found in another way.
func trueHolds(r api.Route, l []api.Label) bool {
	for _, m := range r.Match {
		value := ""
		for _, x := range l {
			if x.Name == m.Name {
				value = x.Value
			}
		}
		among := false
		for _, word := range m.Words {
			among = among || word == value
		}
		if among == (m.How == api.MNot || m.How == api.MNone) {
			return false
		}
	}
	return true
}

// comes tells whether labels come to a place: each route on the way holds, and none ahead of it, beside it, holds that is not On.
func comes(r api.Route, l []api.Label, place []int) bool {
	for step, at := range place {
		for _, ahead := range placed(r, place[:step]).Routes[:at] {
			if trueHolds(ahead, l) && !ahead.On {
				return false
			}
		}
		if !trueHolds(placed(r, place[:step+1]), l) {
			return false
		}
	}
	return true
}

// trueFind are the targets that labels lead to, found in another way: where they come to, and no further.
func trueFind(r api.Route, l []api.Label) []api.Target {
	var found []api.Target
	for _, place := range allPlaces(r) {
		ends := comes(r, l, place)
		for _, inner := range placed(r, place).Routes {
			ends = ends && !trueHolds(inner, l)
		}
		if ends {
			target := api.Target{Path: pathOf(place), Route: placed(r, place)}
			target.Route.Routes = nil
			found = append(found, target)
		}
	}
	return found
}

// finds fails, if labels lead to other targets than they should.
func finds(t *testing.T, r api.Route, l []api.Label) {
	t.Helper()
	got, e := Find(r, l)
	like := func(a, b api.Target) bool { return a.Path == b.Path && same(a.Route, b.Route) }
	if want := trueFind(r, l); e != api.OK || !slices.EqualFunc(got, want, like) {
		t.Fatalf("%v lead, from %s, to %v, %d, not to %v", l, show(r), got, e, want)
	}
}

// leads fails, if labels lead to other targets than those of some paths and receivers, parted by blanks.
func leads(t *testing.T, r api.Route, l []api.Label, want string) {
	t.Helper()
	got, e := Find(r, l)
	var texts []string
	for _, x := range got {
		texts = append(texts, x.Path+":"+x.Route.Receiver)
		if len(x.Route.Routes) != 0 {
			t.Errorf("%s has routes", x.Path)
		}
	}
	if !slices.Equal(texts, strings.Fields(want)) || e != api.OK {
		t.Errorf("%v lead, from %s, to %q, %d, not to %q", l, show(r), texts, e, want)
	}
	finds(t, r, l)
}

// P9.2: what labels lead to.
func TestFind(t *testing.T) {
	a1, a2, b1 := one("a", "1"), one("a", "2"), one("b", "1")
	both := append(one("a", "1"), one("b", "1")...)
	for _, c := range []struct {
		r    api.Route
		l    []api.Label
		want string
	}{
		{plain("t"), nil, ":t"},
		{plain("t"), pairs("a", "1"), ":t"},
		{on("t", nil), nil, ":t"}, // On of the first route alone does not count
		{plain("t", of("x", nil)), nil, ".0:x"},
		{plain("t", of("x", a1)), nil, ":t"},
		{plain("t", of("x", a1)), pairs("a", "2"), ":t"},
		{plain("t", of("x", a1)), pairs("b", "1"), ":t"},
		{plain("t", of("x", a1)), pairs("a", "1", "b", "1"), ".0:x"},
		{plain("t", of("x", one("a", ""))), nil, ".0:x"},
		{plain("t", on("x", a1), of("y", nil)), pairs("a", "1"), ".0:x .1:y"},
		{plain("t", on("x", a1), of("y", nil)), nil, ".1:y"},
		{plain("t", of("x", a1), of("y", nil)), pairs("a", "1"), ".0:x"},
		{plain("t", of("x", a1), of("y", nil)), nil, ".1:y"}, // one that is not On, and does not hold, is no end
		{plain("t", of("x", a1), of("y", a2), of("z", nil)), pairs("a", "2"), ".1:y"},
		{plain("t", on("x", nil), on("y", nil), on("z", nil)), nil, ".0:x .1:y .2:z"},
		{plain("t", on("x", nil), of("y", nil), on("z", nil)), nil, ".0:x .1:y"},
		{plain("t", on("x", nil), of("y", a1), on("z", nil)), nil, ".0:x .2:z"},
		{plain("t", on("x", a1), on("y", a2)), pairs("a", "3"), ":t"},
		{plain("t", on("x", a1), on("y", b1)), pairs("a", "3", "b", "1"), ".1:y"},
		{plain("t", of("x", both), of("y", a1), of("z", b1)), pairs("a", "1", "b", "1"), ".0:x"},
		{plain("t", of("x", both), of("y", a1), of("z", b1)), pairs("a", "1"), ".1:y"},
		{plain("t", of("x", both), of("y", a1), of("z", b1)), pairs("b", "1"), ".2:z"},
		{plain("t", of("x", both), of("y", a1), of("z", b1)), pairs("b", "2"), ":t"},
		{plain("t", of("x", a1, of("y", b1))), pairs("a", "1"), ".0:x"},
		{plain("t", of("x", a1, of("y", b1))), pairs("a", "1", "b", "1"), ".0.0:y"},
		{plain("t", of("x", a1, of("y", b1))), pairs("b", "1"), ":t"}, // what does not hold leads to nothing within it
		{plain("t", of("x", nil, on("y", b1)), of("z", nil)), pairs("b", "1"), ".0.0:y"},
		{plain("t", on("x", nil, of("y", b1)), of("z", nil)), pairs("b", "1"), ".0.0:y .1:z"},
		{plain("t", on("x", nil, on("y", nil), on("z", nil)), of("w", nil, on("v", b1), on("u", a1))), pairs("a", "1"), ".0.0:y .0.1:z .1.1:u"},
		{plain("t", of("x", nil, of("y", nil, of("z", nil)))), nil, ".0.0.0:z"},
		{plain("t", on("x", nil, on("y", nil, on("z", nil), on("z", a1), on("z", nil)), on("w", a1)), on("v", nil)), nil, ".0.0.0:z .0.0.2:z .1:v"},
		{plain("t", on("t", nil), on("t", nil)), nil, ".0:t .1:t"},
		{plain("t", wide(16, on("x", nil))...), nil, ".0:x .1:x .2:x .3:x .4:x .5:x .6:x .7:x .8:x .9:x .10:x .11:x .12:x .13:x .14:x .15:x"},
		{plain("t", append(wide(15, of("x", a1)), of("y", nil, append(wide(10, on("x", a1)), of("z", nil))...))...), nil, ".15.10:z"},
	} {
		leads(t, c.r, c.l, c.want)
	}
}

// P9.2: each How of a matcher, of which all must hold.
func TestFindHow(t *testing.T) {
	r := plain("t",
		on("is", one("a", "1")),
		on("not", []api.Matcher{{Name: "a", How: api.MNot, Words: []string{"1"}}}),
		on("one", []api.Matcher{{Name: "a", How: api.MOne, Words: []string{"1", "2"}}}),
		on("none", []api.Matcher{{Name: "a", How: api.MNone, Words: []string{"1", "2"}}}),
		on("two", []api.Matcher{{Name: "a", How: api.MOne, Words: []string{"1", "2"}}, {Name: "a", How: api.MNot, Words: []string{"1"}}}),
	)
	leads(t, r, nil, ".1:not .3:none")
	leads(t, r, pairs("a", "1"), ".0:is .2:one")
	leads(t, r, pairs("a", "2"), ".1:not .2:one .4:two")
	leads(t, r, pairs("a", "3"), ".1:not .3:none")
}

// P9.2: what the route itself has is not asked, for its Match are not those of a route within another one.
func TestFindItself(t *testing.T) {
	r := full("t", of("x", one("z", "1")))
	leads(t, r, nil, ":t")
	leads(t, r, pairs("b", "2"), ":t")
	leads(t, r, pairs("z", "1"), ".0:x")
	leads(t, r, pairs("a", "1", "z", "1"), ".0:x")
}

// P9.2: a target has all of its route, but its Routes.
func TestFindRoute(t *testing.T) {
	for i, place := range allPlaces(tree()) {
		r := tree()
		one := places(&r)[i]
		one.Wait, one.Routes = 1000+i, nil // labels that come to it lead to it
		got, e := Find(r, pairs("a", "1", "b", "4"))
		at := slices.IndexFunc(got, func(x api.Target) bool { return x.Path == pathOf(place) })
		if at < 0 || e != api.OK || !same(got[at].Route, *one) {
			t.Errorf("%q: %v, %d, not %s", pathOf(place), got, e, show(*one))
		}
	}
}

// P9.2: sets that may be, and sets that may not, of any route.
func TestFindSets(t *testing.T) {
	rs := []api.Route{plain("t"), tree(), plain("t", on("x", one("a", "1")), of("y", nil))}
	for _, l := range [][]api.Label{nil, {}, pairs("a", " ~"), pairs("A", "1", "_", "2", "a", "3"), pairs("a", "1", "b", "1", "c", "1", "d", "1", "e", "1", "f", "1", "g", "1", "h", "1"), pairs(long(64), long(64))} {
		for _, r := range rs {
			finds(t, r, l)
		}
	}
	for _, l := range [][]api.Label{
		pairs("", "v"), pairs("1", "v"), pairs("a-", "v"), pairs("a", ""), pairs("a", "\n"), pairs("a", "\x7f"), pairs(long(65), "v"), pairs("a", long(65)),
		pairs("b", "v", "a", "v"), pairs("a", "v", "a", "v"), pairs("a", "1", "b", ""),
		pairs("a", "1", "b", "1", "c", "1", "d", "1", "e", "1", "f", "1", "g", "1", "h", "1", "i", "1"),
	} {
		for _, r := range append(rs, api.Route{}, chain(5)) {
			if got, e := Find(r, l); len(got) != 0 || e != api.ErrArg {
				t.Errorf("%v lead to %v, %d", l, got, e)
			}
		}
	}
}

// P9.2: the whole of the route counts, where labels do not come, too.
func TestFindWrongBehind(t *testing.T) {
	a1 := one("a", "1")
	for _, r := range []api.Route{
		plain("t", of("x", a1), of("y", a1, plain("z", api.Route{}))),
		plain("t", of("x", nil), api.Route{}),
		plain("t", of("x", a1, chain(3)), chain(4)),
		plain("t", of("x", nil), plain("y", wide(17, plain("z"))...)),
		of("t", []api.Matcher{{}}, of("x", nil)),
		of("t", []api.Matcher{is("a", "1"), is("a", " ")}, of("x", nil)),
		plain("t", of("x", []api.Matcher{is("a", "1"), is("a", " ")})),
	} {
		for _, l := range [][]api.Label{nil, pairs("a", "1")} {
			if got, e := Find(r, l); len(got) != 0 || e != api.ErrArg {
				t.Errorf("%v lead, from %s, to %v, %d", l, show(r), got, e)
			}
		}
	}
}

// randomMatch are matchers that may be, few ones, that often hold.
func randomMatch(r *rand.Rand) []api.Matcher {
	var l []api.Matcher
	for range r.Intn(3) {
		m := is([]string{"a", "b"}[r.Intn(2)], []string{"", "1", "2"}[r.Intn(3)])
		m.How = 1 + r.Intn(4)
		if m.How >= api.MOne && r.Intn(2) == 0 {
			m.Words = append(m.Words, "3")
		}
		l = append(l, m)
	}
	return l
}

// randomRoute is one that may be, at the most so deep.
func randomRoute(r *rand.Rand, deep int) api.Route {
	one := plain(string([]byte{'a' + byte(r.Intn(26))}))
	one.Match, one.Wait, one.On = randomMatch(r), r.Intn(100), r.Intn(2) == 0
	if deep > 1 {
		many := r.Intn(4)
		if r.Intn(40) == 0 {
			many = r.Intn(17)
		}
		for range many {
			one.Routes = append(one.Routes, randomRoute(r, deep-1))
		}
	}
	return one
}

// randomSet is a set that may be.
func randomSet(r *rand.Rand) []api.Label {
	var l []api.Label
	for _, name := range []string{"a", "b", "c"} {
		if value := r.Intn(4); value > 0 {
			l = append(l, api.Label{Name: name, Value: strconv.Itoa(value)})
		}
	}
	return l
}

// placeOf is the place of a path.
func placeOf(path string) []int {
	var place []int
	for _, step := range strings.Split(path, ".")[1:] {
		i, _ := strconv.Atoi(step)
		place = append(place, i)
	}
	return place
}

// P9.3, P9.2, R4: random routes: labels lead to one at least, each of which holds, as all on its way do; and nothing is changed.
func TestFindRandom(t *testing.T) {
	random := rand.New(rand.NewSource(1))
	times := map[int]int{}
	for range 20000 {
		r, l := randomRoute(random, 1+random.Intn(4)), randomSet(random)
		before, labels := copied(r), slices.Clone(l)
		finds(t, r, l)
		got, _ := Find(r, l)
		for _, target := range got {
			place := placeOf(target.Path)
			for step := range place {
				if on := placed(r, place[:step+1]); !trueHolds(on, l) {
					t.Fatalf("%v lead, from %s, to %q, behind %s", l, show(r), target.Path, show(on))
				}
			}
		}
		if len(got) == 0 || !Right(r) || Count(r) != len(allPlaces(r)) || !Like(r, before) {
			t.Fatalf("%v lead, from %s, to %v", l, show(r), got)
		}
		Names(r)
		if !same(r, before) || !slices.Equal(l, labels) {
			t.Fatalf("%s and %v were changed to %s and %v", show(before), labels, show(r), l)
		}
		times[min(len(got), 3)]++
	}
	if times[1] < 1000 || times[2] < 500 || times[3] < 200 {
		t.Errorf("how often they led to one, two and more: %v", times)
	}
}

// P9.3: without On labels lead to just one route.
func TestFindOne(t *testing.T) {
	random := rand.New(rand.NewSource(2))
	within := 0
	for range 20000 {
		r, l := randomRoute(random, 4), randomSet(random)
		for _, one := range places(&r) {
			one.On = false
		}
		got, e := Find(r, l)
		if len(got) != 1 || e != api.OK {
			t.Fatalf("%v lead, from %s, to %v, %d", l, show(r), got, e)
		}
		if len(placeOf(got[0].Path)) == 3 {
			within++
		}
	}
	if within < 500 {
		t.Errorf("only %d of them were 4 deep", within)
	}
}

// P9.2: as many targets as there may be.
func TestFindMany(t *testing.T) {
	r := plain("t", wide(16, on("a", nil, wide(16, on("b", nil, wide(16, on("c", nil))...))...))...)
	got, e := Find(r, nil)
	if len(got) != 4096 || e != api.OK || got[0].Path != ".0.0.0" || got[4095].Path != ".15.15.15" {
		t.Fatalf("%d targets, %d", len(got), e)
	}
	for i, x := range got {
		if want := pathOf([]int{i / 256, i / 16 % 16, i % 16}); x.Path != want || x.Route.Receiver != "c" {
			t.Errorf("%q is at place %d", x.Path, i)
		}
	}
}
