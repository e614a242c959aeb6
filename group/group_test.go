package group

import (
	"fmt"
	"math"
	"slices"
	"strings"
	"testing"

	"transhipment/api"
)

const most = 1099511627776 // of ticks

// pairs are labels of names and values by turns, whether they may be or not.
func pairs(said ...string) []api.Label {
	var l []api.Label
	for i := 0; i < len(said); i += 2 {
		l = append(l, api.Label{Name: said[i], Value: said[i+1]})
	}
	return l
}

// lettered are labels of one-letter names from one on, so many.
func lettered(from byte, many int) []api.Label {
	var l []api.Label
	for i := range many {
		l = append(l, api.Label{Name: string([]byte{from + byte(i)}), Value: "v"})
	}
	return l
}

// long is a text of that many bytes.
func long(many int) string { return strings.Repeat("n", many) }

// is is a matcher of a name and its value.
func is(name, value string) api.Matcher {
	return api.Matcher{Name: name, How: api.MIs, Words: []string{value}}
}

// plain is a route with no more than it must have, and with routes within it.
func plain(receiver string, within ...api.Route) api.Route {
	return api.Route{Receiver: receiver, Every: 10, Repeat: 100, Wait: 5, Routes: within}
}

// wide are as many routes.
func wide(many int, r api.Route) []api.Route { return slices.Repeat([]api.Route{r}, many) }

// tree is a route with paths of one and of two digits: .0, .0.0, .1, .1.0, .1.0.0 to .1.0.1, .2 to .10.
func tree() api.Route {
	return plain("top", append([]api.Route{
		plain("a", plain("b")),
		plain("c", plain("d", plain("e"), plain("f"))),
	}, wide(9, plain("g"))...)...)
}

// firing is a group of a path, with no key, and of members of the label n; its members are sorted, if the values are.
func firing(path string, values ...string) api.Group {
	x := api.Group{Path: path}
	for _, value := range values {
		x.Members = append(x.Members, api.Member{Labels: pairs("n", value)})
	}
	return x
}

// keyed is a group of a path, with a key, and a member.
func keyed(path string, said ...string) api.Group {
	x := firing(path, "1")
	x.Key = pairs(said...)
	return x
}

// numbers are values of three digits, from one on, so many.
func numbers(from, many int) []string {
	var l []string
	for i := range many {
		l = append(l, fmt.Sprintf("%03d", from+i))
	}
	return l
}

// texts are those of sets of the label n alone.
func texts(values ...string) []string {
	var l []string
	for _, value := range values {
		l = append(l, `{n="`+value+`"}`)
	}
	return l
}

// many are groups of the path of a route, by a key's values, so many.
func many(path string, from, count int) []api.Group {
	var g []api.Group
	for _, value := range numbers(from, count) {
		g = append(g, keyed(path, "k", value))
	}
	return g
}

// with is a thing with a change.
func with[T any](x T, change func(x *T)) T {
	change(&x)
	return x
}

func likeMember(a, b api.Member) bool { return slices.Equal(a.Labels, b.Labels) && a.Ends == b.Ends }

func likeGroup(a, b api.Group) bool {
	return a.Path == b.Path && slices.Equal(a.Key, b.Key) && slices.EqualFunc(a.Members, b.Members, likeMember) &&
		a.Next == b.Next && slices.Equal(a.Told, b.Told) && a.At == b.At
}

func likeGroups(a, b []api.Group) bool { return slices.EqualFunc(a, b, likeGroup) }

func likeNote(a, b api.Note) bool {
	return a.Receiver == b.Receiver && a.Path == b.Path && a.Key == b.Key &&
		slices.Equal(a.Firing, b.Firing) && slices.Equal(a.Ended, b.Ended) && a.At == b.At
}

// copied are groups that share nothing with these.
func copied(g []api.Group) []api.Group {
	g = slices.Clone(g)
	for i := range g {
		g[i].Key, g[i].Told, g[i].Members = slices.Clone(g[i].Key), slices.Clone(g[i].Told), slices.Clone(g[i].Members)
		for j := range g[i].Members {
			g[i].Members[j].Labels = slices.Clone(g[i].Members[j].Labels)
		}
	}
	return g
}

// show is a thing as a text, of which no more than its beginning stands.
func show(x any) string { return fmt.Sprintf("%.1000s", fmt.Sprint(x)) }

// asked fails, if it is not as wanted whether groups may be.
func asked(t *testing.T, what string, r api.Route, g []api.Group, want bool) {
	t.Helper()
	if got := Right(r, g); got != want {
		t.Errorf("%s: %s may be: %v", what, show(g), got)
	}
}

// P15.1: no groups may be of a route that may be, and none of one that may not be.
func TestRightRoute(t *testing.T) {
	asked(t, "nil", tree(), nil, true)
	asked(t, "empty", tree(), []api.Group{}, true)
	itself := plain("a", wide(2, plain("b"))...)
	for i := range itself.Routes {
		itself.Routes[i].Routes = itself.Routes
	}
	for k, r := range []api.Route{
		{},
		plain(""),
		plain("a", plain("B")),
		plain("a", wide(17, plain("b"))...),
		plain("a", plain("b", plain("c", plain("d", plain("e"))))),
		with(plain("a"), func(r *api.Route) { r.Every = 0 }),
		with(plain("a"), func(r *api.Route) { r.By = []string{"b", "a"} }),
		itself,
	} {
		what := fmt.Sprint("wrong route ", k)
		asked(t, what, r, nil, false)
		asked(t, what, r, []api.Group{firing("", "1")}, false)
		if g, e := Come(r, nil, api.Change{Fires: true}, 0); len(g) != 0 || e != api.ErrArg {
			t.Error(what, g, e)
		}
		c := api.Config{Receivers: []string{"a", "b", "c", "d", "e"}, Route: r}
		if g, n, e := Flush(c, nil, nil, 0); len(g)+len(n) != 0 || e != api.ErrArg {
			t.Error(what, g, n, e)
		}
	}
	some := with(plain("a"), func(r *api.Route) { r.Match, r.On = []api.Matcher{is("a", "1")}, true })
	asked(t, "a route that is not the top one", some, []api.Group{firing("", "1")}, true)
}

// P15.1: a group's path is that of one of the routes.
func TestRightPath(t *testing.T) {
	there := []string{"", ".0", ".0.0", ".1", ".1.0", ".1.0.0", ".1.0.1", ".2", ".3", ".9", ".10"}
	for _, path := range append([]string{
		".11", ".0.1", ".1.1", ".1.0.2", ".0.0.0", ".1.0.0.0", ".2.0", ".10.0", ".00", ".01", ".010", ".1.00", ".+1", ".-0", ".-1", ".1_0", ".0x1", ".1e0",
		".", "..", "...", "0", "1", "10", "0.0", ".0.", ".1.0.", "..0", ".0..0", "1.0", ".1,0", "/0", ".0 ", " .0", ". 0", " ", ".a", ".\x00", "\x00", ".0\x00", "\x00.0",
		".\xd9\xa0", ".4294967296", ".18446744073709551616", ".99999999999999999999999999", "." + strings.Repeat("0", 1000), strings.Repeat(".0", 1000),
	}, there...) {
		asked(t, "path "+path, tree(), []api.Group{firing(path, "1")}, slices.Contains(there, path))
	}
	asked(t, "no routes", plain("a"), []api.Group{firing("", "1")}, true)
	asked(t, "no routes", plain("a"), []api.Group{firing(".0", "1")}, false)
	sixteen := plain("a", wide(16, plain("b", wide(16, plain("c", wide(16, plain("d"))...))...))...)
	asked(t, "sixteen", sixteen, []api.Group{firing(".15.15.15", "1")}, true)
	asked(t, "the seventeenth", sixteen, []api.Group{firing(".15.15.16", "1")}, false)
	asked(t, "five deep", sixteen, []api.Group{firing(".0.0.0.0", "1")}, false)
}

// P15.1: a group's numbers, about the least and the greatest.
func TestRightNumbers(t *testing.T) {
	for _, n := range []int{math.MinInt, -most - 1, -most, -2, -1, 0, 1, 2, most - 1, most, most + 1, most + 2, 2 * most, math.MaxInt} {
		want := n >= 0 && n <= most
		asked(t, fmt.Sprint("next ", n), tree(), []api.Group{with(firing(".0", "1"), func(x *api.Group) { x.Next = n })}, want)
		asked(t, fmt.Sprint("at ", n), tree(), []api.Group{with(firing(".0", "1"), func(x *api.Group) { x.At = n })}, want)
		asked(t, fmt.Sprint("both ", n), tree(), []api.Group{with(firing(".0", "1"), func(x *api.Group) { x.Next, x.At = n, n })}, want)
	}
}

// sets are lists of labels, and whether they may be.
func sets() map[string][]api.Label {
	return map[string][]api.Label{
		"ok, none":               nil,
		"ok, one":                pairs("a", "1"),
		"ok, eight":              lettered('a', 8),
		"ok, 64 bytes":           pairs(long(64), long(64)),
		"ok, of all":             pairs("_A9", " ~\"\\"),
		"nine":                   lettered('a', 9),
		"65 bytes of a name":     pairs(long(65), "v"),
		"65 bytes of a value":    pairs("a", long(65)),
		"no name":                pairs("", "v"),
		"no value":               pairs("a", ""),
		"a digit ahead":          pairs("1a", "v"),
		"a byte 31":              pairs("a", "\x1f"),
		"a byte 127":             pairs("a", "\x7f"),
		"out of order":           pairs("b", "v", "a", "v"),
		"twice":                  pairs("a", "v", "a", "w"),
		"a wrong one, the last":  append(lettered('a', 7), pairs("z", "")...),
		"a wrong one, the first": append(pairs("!", "v"), lettered('a', 7)...),
	}
}

// P15.1: keys, members' labels, and texts of what was told, that may be, and that may not.
func TestRightLabels(t *testing.T) {
	for what, l := range sets() {
		want := strings.HasPrefix(what, "ok")
		asked(t, "a key of "+what, tree(), []api.Group{with(firing(".0", "1"), func(x *api.Group) { x.Key = l })}, want)
		asked(t, "a member of "+what, tree(), []api.Group{{Members: []api.Member{{Labels: l}}}}, want)
		asked(t, "a member that ends of "+what, tree(), []api.Group{{Members: []api.Member{{Labels: l, Ends: true}}}}, want)
		var said []string
		for _, x := range l {
			said = append(said, x.Name+`="`+strings.NewReplacer(`"`, `\"`, `\`, `\\`).Replace(x.Value)+`"`)
		}
		asked(t, "told was "+what, tree(), []api.Group{{Told: []string{"{" + strings.Join(said, ",") + "}"}}}, want)
	}
	for _, text := range []string{"", " ", "{", "}", "a", `a="1"`, `{a="1"`, `{a="1"}}`, `{{a="1"}`, `{a="1",}`, `{,a="1"}`, `{a=1}`, `{a="1" }`, ` {a="1"}`, `{a="1"} `, `{a="1";b="2"}`, `{a="\1"}`, `{a="""}`, `{a="1"}` + "\n", "\x00"} {
		asked(t, "told was "+text, tree(), []api.Group{{Told: []string{text}}}, false)
	}
}

// P15.1: a group has a member, or something told.
func TestRightEmpty(t *testing.T) {
	member := []api.Member{{}}
	for _, x := range []api.Group{{}, {Path: ".0", Key: pairs("a", "1"), Next: 5, At: 3}, {Members: []api.Member{}, Told: []string{}}} {
		asked(t, "nothing", tree(), []api.Group{x}, false)
		asked(t, "nothing, behind another one", tree(), []api.Group{with(firing("", "1"), func(x *api.Group) { x.Key = pairs("A", "1") }), x}, false)
		asked(t, "a member", tree(), []api.Group{with(x, func(x *api.Group) { x.Members = member })}, true)
		asked(t, "told", tree(), []api.Group{with(x, func(x *api.Group) { x.Told = []string{"{}"} })}, true)
		asked(t, "both", tree(), []api.Group{with(x, func(x *api.Group) { x.Told, x.Members = []string{"{}"}, member })}, true)
		asked(t, "both, that are others", tree(), []api.Group{with(x, func(x *api.Group) { x.Told, x.Members = []string{`{z="1"}`}, member })}, true)
	}
}

// P15.1: how many members there may be, a wrong one at each place, and each in its place.
func TestRightMembers(t *testing.T) {
	for _, count := range []int{1, 2, 63, 64, 65, 66, 200} {
		values := numbers(0, count)
		asked(t, fmt.Sprint(count, " members"), tree(), []api.Group{firing(".0", values...)}, count <= 64)
		asked(t, fmt.Sprint(count, " told"), tree(), []api.Group{{Told: texts(values...)}}, count <= 64)
		asked(t, fmt.Sprint(count, " of both"), tree(), []api.Group{with(firing(".0", values...), func(x *api.Group) { x.Told = texts(values...) })}, count <= 64)
		for i := range min(count, 64) {
			x := firing(".0", values[:min(count, 64)]...)
			x.Told = texts(values[:min(count, 64)]...)
			x.Members[i].Ends = true
			asked(t, fmt.Sprint("member ", i, " ends"), tree(), []api.Group{x}, true)
			other := copied([]api.Group{x})
			other[0].Members[i].Labels = append(other[0].Members[i].Labels, api.Label{Name: "a", Value: "1"})
			asked(t, fmt.Sprint("member ", i, " is wrong"), tree(), other, false)
			other = copied([]api.Group{x})
			other[0].Told[i] += " "
			asked(t, fmt.Sprint("told ", i, " is wrong"), tree(), other, false)
		}
	}
}

// rising are sets by their texts, in which a quote is above `!`, a comma below `}`, and a digit below `=`.
func rising() [][]api.Label {
	return [][]api.Label{
		pairs("A", "z"), pairs("_", "z"), pairs("a1", "1"),
		pairs("a", "1!"), pairs("a", "1", "b", "1", "c", "1"), pairs("a", "1", "b", "1"), pairs("a", "1"), pairs("a", "10"), pairs("a", "2"), pairs("a", "A"),
		pairs("a", `"`), pairs("a", `"\`), pairs("a", `\`), pairs("a", "a"), pairs("aa", "1"), pairs("b", "0"), pairs("b", "1"), nil,
	}
}

// P15.1: in which order members stand, and what was told.
func TestRightOrder(t *testing.T) {
	var all []api.Member
	var told []string
	for _, l := range rising() {
		all = append(all, api.Member{Labels: l, Ends: len(l) == 2})
		var said []string
		for _, x := range l {
			said = append(said, x.Name+`="`+strings.NewReplacer(`"`, `\"`, `\`, `\\`).Replace(x.Value)+`"`)
		}
		told = append(told, "{"+strings.Join(said, ",")+"}")
	}
	asked(t, "all", tree(), []api.Group{{Members: all, Told: told}}, true)
	for i := range all {
		for j := range all {
			what := fmt.Sprint(i, " ahead of ", j)
			asked(t, what, tree(), []api.Group{{Members: []api.Member{all[i], all[j]}}}, i < j)
			asked(t, what, tree(), []api.Group{{Members: []api.Member{all[i], {Labels: all[j].Labels, Ends: !all[j].Ends}}}}, i < j)
			asked(t, what, tree(), []api.Group{{Told: []string{told[i], told[j]}}}, i < j)
		}
		asked(t, fmt.Sprint(i, " twice"), tree(), []api.Group{{Members: slices.Insert(slices.Clone(all), i, all[i])}}, false)
		asked(t, fmt.Sprint(i, " told twice"), tree(), []api.Group{{Told: slices.Insert(slices.Clone(told), i, told[i])}}, false)
		asked(t, fmt.Sprint("without ", i), tree(), []api.Group{{Members: slices.Delete(slices.Clone(all), i, i+1), Told: slices.Delete(slices.Clone(told), i, i+1)}}, true)
	}
}

// P15.1: in which order groups stand: by their path, byte by byte, and then by their key's text.
func TestRightGroupOrder(t *testing.T) {
	var all []api.Group
	for _, path := range []string{"", ".0", ".0.0", ".1", ".1.0", ".1.0.0", ".1.0.1", ".10", ".2", ".9"} {
		for i, key := range rising() {
			all = append(all, api.Group{Path: path, Key: key, Next: i % 3, At: i % 2, Members: []api.Member{{}}})
		}
	}
	for i, a := range all {
		for j, b := range all {
			asked(t, fmt.Sprint(i, " ahead of ", j), tree(), []api.Group{a, b}, i < j)
			asked(t, fmt.Sprint(i, " ahead of another one of ", j), tree(), []api.Group{a, {Path: b.Path, Key: b.Key, Next: 7, Told: []string{"{}"}}}, i < j)
		}
		one := slices.Clone(all[max(0, i-10):min(len(all), i+10)])
		asked(t, fmt.Sprint("about ", i), tree(), one, true)
		one[0], one[len(one)-1] = one[len(one)-1], one[0]
		asked(t, fmt.Sprint("about ", i), tree(), one, false)
	}
}

// P15.1: how many groups there may be, and a wrong one at each place.
func TestRightGroups(t *testing.T) {
	for _, count := range []int{1, 2, 31, 32, 33, 34, 100} {
		asked(t, fmt.Sprint(count, " groups"), tree(), many(".0", 0, count), count <= 32)
		asked(t, fmt.Sprint(count, " groups of two paths"), tree(), append(many(".0", 0, count/2), many(".1", 0, count-count/2)...), count <= 32)
		for i := range min(count, 32) {
			for k, change := range []func(x *api.Group){
				func(x *api.Group) { x.Path += "0" },
				func(x *api.Group) { x.Key[0].Name = "" },
				func(x *api.Group) { x.Members = nil },
				func(x *api.Group) { x.Members[0].Labels[0].Value = "" },
				func(x *api.Group) { x.Told = []string{""} },
				func(x *api.Group) { x.Next = -1 },
				func(x *api.Group) { x.At = most + 1 },
			} {
				g := many(".0", 0, min(count, 32))
				change(&g[i])
				asked(t, fmt.Sprint("change ", k, " of group ", i), tree(), g, false)
			}
		}
	}
}

// Ways: things of any kind rise, by the name that a closure tells, an empty one, too.
func TestRise(t *testing.T) {
	for _, c := range []struct {
		l    []string
		want bool
	}{
		{nil, true}, {some(""), true}, {some("", "a"), true}, {some("", ""), false}, {some("a", ""), false},
		{some("a"), true}, {some("a", "b", "c"), true}, {some("a", "c", "b"), false}, {some("b", "a", "c"), false}, {some("a", "a", "b"), false}, {some("a", "b", "b"), false},
		{some("10", "9"), true}, {some("9", "10"), false}, {some("a", "a\x00"), true}, {some("\x7f", "\x80", "\xff"), true}, {some("Z", "a"), true},
	} {
		places := make([]int, len(c.l))
		for i := range places {
			places[i] = i
		}
		name := func(i int) string { return c.l[i] }
		if rise(textsOf(c.l)) != c.want || rise(row[int]{places, name}) != c.want {
			t.Errorf("%q rise: %v", c.l, !c.want)
		}
	}
}

// P15.1: the least Next, whether the groups may be or not.
func TestNext(t *testing.T) {
	for _, c := range []struct {
		times []int
		want  int
		e     api.Errno
	}{
		{nil, 0, api.ErrNone},
		{[]int{0}, 0, api.OK},
		{[]int{7}, 7, api.OK},
		{[]int{most}, most, api.OK},
		{[]int{5, 7, 9}, 5, api.OK},
		{[]int{9, 7, 5}, 5, api.OK},
		{[]int{7, 5, 9}, 5, api.OK},
		{[]int{5, 5}, 5, api.OK},
		{[]int{most, 0}, 0, api.OK},
		{[]int{math.MaxInt, most + 1}, most + 1, api.OK},
		{[]int{0, -1, math.MinInt, 3}, math.MinInt, api.OK},
		{[]int{1 << 33, 1<<32 + 5}, 1<<32 + 5, api.OK},
	} {
		var g []api.Group
		for _, n := range c.times {
			g = append(g, api.Group{Next: n})
		}
		for range 2 {
			if got, e := Next(g); got != c.want || e != c.e {
				t.Errorf("of %v the next is %d, %d", c.times, got, e)
			}
			for i := range g {
				g[i].At, g[i].Members = i, []api.Member{{Ends: true}}
			}
		}
	}
	if got, e := Next([]api.Group{}); got != 0 || e != api.ErrNone {
		t.Error(got, e)
	}
	if got, e := Next(many("", 0, 1000)); got != 0 || e != api.OK {
		t.Error(got, e)
	}
}
