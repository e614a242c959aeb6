package group

import (
	"fmt"
	"math"
	"slices"
	"testing"

	"transhipment/api"
)

// come is Come, that fails, if an argument is another one behind it.
func come(t *testing.T, r api.Route, g []api.Group, c api.Change, now int) ([]api.Group, api.Errno) {
	t.Helper()
	ahead, labels := copied(g), slices.Clone(c.Labels)
	got, e := Come(r, g, c, now)
	if e == api.OK && !Right(r, got) {
		t.Errorf("%s may not be", show(got))
	}
	if e != api.OK && len(got) > 0 {
		t.Errorf("beside %d is %s", e, show(got))
	}
	answer := slices.Clone(got)
	clear(got) // what is written into an answer is not in the argument
	if !likeGroups(g, ahead) || !slices.Equal(c.Labels, labels) {
		t.Errorf("%s was changed to %s", show(ahead), show(g))
	}
	return answer, e
}

// comes fails, if the groups behind a change are not those wanted.
func comes(t *testing.T, what string, r api.Route, g []api.Group, c api.Change, now int, want ...api.Group) {
	t.Helper()
	if got, e := come(t, r, g, c, now); e != api.OK || !likeGroups(got, want) {
		t.Errorf("%s: %s, %d, not %s", what, show(got), e, show(want))
	}
}

func on(said ...string) api.Change  { return api.Change{Labels: pairs(said...), Fires: true} }
func off(said ...string) api.Change { return api.Change{Labels: pairs(said...)} }

// by is a route with names of By.
func by(r api.Route, names ...string) api.Route {
	r.By = names
	return r
}

// matched is a route of a label's value, on or not.
func matched(r api.Route, on bool, name, value string) api.Route {
	r.Match, r.On = []api.Matcher{is(name, value)}, on
	return r
}

// P15.1: times, labels and groups that may not be, ahead of there being too many.
func TestComeErrors(t *testing.T) {
	full := [][]api.Group{nil, {firing("", "1")}, many("", 0, 32), {firing("", numbers(0, 64)...)}}
	for k, g := range full {
		for _, fires := range []bool{false, true} {
			for _, now := range []int{math.MinInt, -most, -1, most + 1, 2 * most, math.MaxInt} {
				if _, e := come(t, tree(), g, api.Change{Fires: fires}, now); e != api.ErrArg {
					t.Errorf("groups %d at %d: %d", k, now, e)
				}
			}
			for what, l := range sets() {
				_, e := come(t, tree(), g, api.Change{Labels: l, Fires: fires}, 0)
				if want := what[:3] != "ok,"; want != (e == api.ErrArg) {
					t.Errorf("groups %d, labels of %s: %d", k, what, e)
				}
			}
			for _, x := range []api.Group{{}, firing(".11", "1"), firing("", numbers(0, 65)...), keyed("", "b", "1", "a", "1"), {Next: -1, Told: []string{"{}"}}} {
				if _, e := come(t, tree(), append(slices.Clone(g), x), api.Change{Fires: fires}, 0); e != api.ErrArg {
					t.Errorf("groups %d and %s: %d", k, show(x), e)
				}
			}
		}
	}
	if _, e := come(t, tree(), many("", 0, 33), off("a", "1"), 0); e != api.ErrArg {
		t.Error(e)
	}
	for _, now := range []int{0, 1, most - 1, most} {
		comes(t, fmt.Sprint("at ", now), tree(), nil, off(), now)
	}
	ahead := api.Group{Next: most, Told: []string{"{}"}, At: most} // no time is asked of what was told
	comes(t, "told later", tree(), []api.Group{ahead}, off(), 0, ahead)
}

// P15.1: a group that comes: its path, its key, when it is looked at, and nothing told.
func TestComeNew(t *testing.T) {
	one := on("a", "1", "b", "2", "c", "3")
	member := []api.Member{{Labels: one.Labels}}
	for _, c := range []struct {
		names, key []string
	}{
		{nil, nil},
		{[]string{"a"}, []string{"a", "1"}},
		{[]string{"b", "c"}, []string{"b", "2", "c", "3"}},
		{[]string{"a", "b", "c"}, []string{"a", "1", "b", "2", "c", "3"}},
		{[]string{"A", "bb", "x"}, nil},
		{[]string{"a", "aa", "c", "d"}, []string{"a", "1", "c", "3"}},
	} {
		for _, wait := range []int{0, 1, 5, most - 1, most} {
			for _, now := range []int{0, 1, 7, most - 5, most - 1, most} {
				inner := by(plain("b"), c.names...)
				inner.Wait = wait
				next := now + wait
				if next > most {
					next = most
				}
				comes(t, fmt.Sprint(c.names, wait, now), inner, nil, one, now, api.Group{Key: pairs(c.key...), Members: member, Next: next})
				outer := by(plain("a", plain("x", plain("y")), inner), "c") // its own Wait and By are not those asked
				outer.Routes[0].Match = []api.Matcher{is("a", "2")}
				comes(t, fmt.Sprint("within ", c.names, wait, now), outer, nil, one, now, api.Group{Path: ".1", Key: pairs(c.key...), Members: member, Next: next})
			}
		}
	}
	comes(t, "no labels", by(plain("a"), "a"), nil, on(), 3, api.Group{Members: []api.Member{{}}, Next: 8})
}

// P15.1: a group that comes stands in its place.
func TestComePlace(t *testing.T) {
	r := by(plain("top", append(wide(10, plain("x")), matched(by(plain("y"), "k", "l"), false, "p", "10"))...), "k", "l")
	for i := range 10 {
		r.Routes[i] = matched(by(plain("x", matched(by(plain("z"), "k", "l"), false, "q", "0")), "k", "l"), false, "p", fmt.Sprint(i))
	}
	said := func(path string, key []api.Label) []api.Label { // what leads to a path, with a key
		l := slices.Clone(key)
		if len(path) > 1 {
			l = append(l, api.Label{Name: "p", Value: path[1:]})
			if len(path) == 4 {
				l[len(l)-1].Value = path[1:2]
				l = append(l, api.Label{Name: "q", Value: "0"})
			}
		}
		return l
	}
	var all []api.Group
	for _, path := range []string{"", ".0", ".0.0", ".1", ".1.0", ".10", ".2", ".9"} {
		for _, key := range [][]api.Label{pairs("k", "1"), pairs("k", "2"), pairs("l", "1"), nil} {
			all = append(all, api.Group{Path: path, Key: key, Members: []api.Member{{Labels: said(path, key)}}, Next: 5})
		}
	}
	if !Right(r, all) || len(all) != 32 {
		t.Fatal("they may not be")
	}
	for i, x := range all {
		others := slices.Delete(slices.Clone(all), i, i+1)
		change := api.Change{Labels: x.Members[0].Labels, Fires: true}
		comes(t, fmt.Sprint("the one of ", i), r, others, change, 0, all...)
		comes(t, fmt.Sprint("again ", i), r, all, change, 77, all...)
		change.Fires = false
		comes(t, fmt.Sprint("the end of none ", i), r, others, change, 0, others...)
		ended := copied(all)
		ended[i].Members[0].Ends = true
		comes(t, fmt.Sprint("the end of ", i), r, all, change, 77, ended...)
	}
}

// P15.1: a member comes to a group that is there, in its place, and comes again, and ends; all else stays as it is.
func TestComeMember(t *testing.T) {
	r := by(plain("a"), "k")
	group := func(ends string, values ...string) api.Group {
		x := api.Group{Key: pairs("k", "1"), Next: 77, Told: texts("2", "x"), At: 33}
		for i, value := range values {
			x.Members = append(x.Members, api.Member{Labels: pairs("k", "1", "n", value), Ends: ends[i] == 'e'})
		}
		return x
	}
	before, behind := keyed("", "k", "0"), keyed("", "k", "2")
	for _, c := range []struct {
		ahead, then api.Group
		change      api.Change
	}{
		{group("--", "2", "4"), group("---", "1", "2", "4"), on("k", "1", "n", "1")},
		{group("--", "2", "4"), group("---", "2", "3", "4"), on("k", "1", "n", "3")},
		{group("--", "2", "4"), group("---", "2", "4", "5"), on("k", "1", "n", "5")},
		{group("--", "2", "4"), group("--", "2", "4"), on("k", "1", "n", "2")},
		{group("ee", "2", "4"), group("-e", "2", "4"), on("k", "1", "n", "2")},
		{group("ee", "2", "4"), group("e-", "2", "4"), on("k", "1", "n", "4")},
		{group("ee", "2", "4"), group("e-e", "2", "3", "4"), on("k", "1", "n", "3")},
		{group("--", "2", "4"), group("e-", "2", "4"), off("k", "1", "n", "2")},
		{group("--", "2", "4"), group("-e", "2", "4"), off("k", "1", "n", "4")},
		{group("e-", "2", "4"), group("e-", "2", "4"), off("k", "1", "n", "2")},
		{group("--", "2", "4"), group("--", "2", "4"), off("k", "1", "n", "3")},
		{group("--", "2", "4"), group("--", "2", "4"), off("k", "1", "n", "1")},
		{group("--", "2", "4"), group("--", "2", "4"), off("k", "1", "n", "5")},
		{group("--", "2", "4"), group("--", "2", "4"), off("k", "1")},
		{group("--", "2", "4"), group("--", "2", "4"), off("k", "3", "n", "2")},
		{group(""), group("-", "2"), on("k", "1", "n", "2")},
		{group(""), group(""), off("k", "1", "n", "2")},
	} {
		for _, now := range []int{0, 50, most} {
			comes(t, "alone", r, []api.Group{c.ahead}, c.change, now, c.then)
			comes(t, "among others", r, []api.Group{before, c.ahead, behind}, c.change, now, before, c.then, behind)
		}
	}
}

// P15.1: a change comes to each target's group, in order, and ends only where it came.
func TestComeTargets(t *testing.T) {
	r := by(plain("top",
		matched(by(plain("x"), "a"), true, "a", "1"),
		matched(by(plain("y", by(plain("y0"), "a", "b")), "b"), true, "b", "2"),
		matched(plain("z"), true, "c", "3"),
		by(plain("rest"), "c"),
		by(plain("never"), "a"),
	), "a")
	r.Routes[1].Routes[0].Wait, r.Routes[0].Wait = 0, most
	x := on("a", "1", "b", "2")
	member := []api.Member{{Labels: x.Labels}}
	all := []api.Group{
		{Path: ".0", Key: pairs("a", "1"), Members: member, Next: most},
		{Path: ".1.0", Key: pairs("a", "1", "b", "2"), Members: member, Next: 3},
		{Path: ".3", Members: member, Next: 8},
	}
	comes(t, "three", r, nil, x, 3, all...)
	got, _ := Come(r, nil, x, 3)
	got[0].Members[0].Labels[0].Value = "9"
	if got[1].Members[0].Labels[0].Value != "1" || got[2].Members[0].Labels[0].Value != "1" || x.Labels[0].Value != "1" {
		t.Error("two lists share their labels")
	}
	ended := []api.Member{{Labels: x.Labels, Ends: true}}
	x.Fires = false
	comes(t, "an end in two", r, all[1:], x, 9,
		with(all[1], func(x *api.Group) { x.Members = ended }), with(all[2], func(x *api.Group) { x.Members = ended }))
	comes(t, "an end in one, of another path and key", r, append([]api.Group{firing("", "1")}, all[2]), x, 9,
		firing("", "1"), with(all[2], func(x *api.Group) { x.Members = ended }))
	comes(t, "an end in none", r, nil, x, 9)
}

// P15.1: how many groups there may be, and members of one.
func TestComeFull(t *testing.T) {
	one := by(plain("a"), "k")
	two := by(plain("a", matched(by(plain("b"), "k"), true, "k", "x"), by(plain("c"), "k")), "k")
	there := api.Group{Key: pairs("k", "000"), Members: []api.Member{{Labels: pairs("k", "000")}}}
	for _, c := range []struct {
		what   string
		r      api.Route
		g      []api.Group
		change api.Change
		want   int // how many groups there are; none beside ErrFull
	}{
		{"the last one", one, many("", 0, 31), on("k", "x"), 32},
		{"one too many", one, many("", 0, 32), on("k", "x"), 0},
		{"one that is there", one, many("", 0, 32), on("k", "000"), 32},
		{"one that ends, and is there", one, append([]api.Group{there}, many("", 1, 31)...), off("k", "000"), 32},
		{"one that ends, and is not there", one, many("", 0, 32), off("k", "x"), 32},
		{"two more", two, many("", 0, 30), on("k", "x"), 32},
		{"two, one of them too many", two, many("", 0, 31), on("k", "x"), 0},
		{"two, both too many", two, many("", 0, 32), on("k", "x"), 0},
		{"two, one of them there", two, append(many("", 0, 30), keyed(".0", "k", "x")), on("k", "x"), 32},
		{"two, the other one there", two, append(many("", 0, 30), keyed(".1", "k", "x")), on("k", "x"), 32},
		{"two, both there", two, append(many("", 0, 30), keyed(".0", "k", "x"), keyed(".1", "k", "x")), on("k", "x"), 32},
		{"the last member", plain("a"), []api.Group{firing("", numbers(0, 63)...)}, on("n", "x"), 1},
		{"one too many members", plain("a"), []api.Group{firing("", numbers(0, 64)...)}, on("n", "x"), 0},
		{"one too many, ahead of all", plain("a"), []api.Group{firing("", numbers(1, 64)...)}, on("n", "000"), 0},
		{"a member that is there", plain("a"), []api.Group{firing("", numbers(0, 64)...)}, on("n", "063"), 1},
		{"a member that ends", plain("a"), []api.Group{firing("", numbers(0, 64)...)}, off("n", "063"), 1},
		{"a member that ends, and is not there", plain("a"), []api.Group{firing("", numbers(0, 64)...)}, off("n", "x"), 1},
		{"a member of another group", one, []api.Group{firing("", numbers(0, 64)...)}, on("k", "x"), 2},
		{"a member of two, of which the first is full", two, []api.Group{with(firing(".0", numbers(0, 64)...), func(x *api.Group) { x.Key = pairs("k", "x") })}, on("k", "x", "n", "x"), 0},
		{"a member of two, of which the other is full", two, []api.Group{with(firing(".1", numbers(0, 64)...), func(x *api.Group) { x.Key = pairs("k", "x") })}, on("k", "x", "n", "x"), 0},
	} {
		if !Right(c.r, c.g) {
			t.Fatal(c.what)
		}
		got, e := come(t, c.r, c.g, c.change, 0)
		if c.want == 0 && e != api.ErrFull || c.want > 0 && (e != api.OK || len(got) != c.want) {
			t.Errorf("%s: %d, %d", c.what, len(got), e)
		}
	}
}

// P15.1, P1: routes to which labels lead by the thousand.
func TestComeMany(t *testing.T) {
	every := func(r api.Route) api.Route {
		r.On = true
		return r
	}
	r := plain("a", wide(16, every(plain("b", wide(16, every(plain("c", wide(16, every(plain("d")))...)))...)))...)
	if _, e := come(t, r, nil, on("a", "1"), 0); e != api.ErrFull {
		t.Error(e)
	}
	if g, e := come(t, r, many(".0.0.0", 0, 32), off("a", "1"), 0); e != api.OK || len(g) != 32 {
		t.Error(len(g), e)
	}
}
