package amfile

import (
	"fmt"
	"math"
	"math/rand"
	"reflect"
	"slices"
	"strconv"
	"strings"
	"testing"

	"transhipment/api"
)

// refused fails, if a configuration can be said so.
func refused(t *testing.T, what string, c api.Config) {
	t.Helper()
	if Holds(c) {
		t.Errorf("%s: %v holds", what, c)
	}
	if s, e := Export(c); e != api.ErrOther || s != "" {
		t.Errorf("%s: written as %q, %d", what, s, e)
	}
}

// taken fails, if a configuration can't be said so, has another text, or is read as another one.
func taken(t *testing.T, what string, c api.Config) {
	t.Helper()
	if !Holds(c) {
		t.Errorf("%s: %v doesn't hold", what, c)
	}
	n := trueNormal(c)
	want := trueText(n)
	s, e := Export(c)
	if len(want) > 8192 {
		if s != "" || e != api.ErrLong {
			t.Errorf("%s: %d bytes are written as %q, %d", what, len(want), s, e)
		}
		return
	}
	if s != want || e != api.OK {
		t.Errorf("%s: written as\n%s, %d, not as\n%s", what, s, e, want)
	}
	if got, e, at := Import(s); !same(got, n) || len(got.Rules) > 0 || e != api.OK || at != 0 {
		t.Errorf("%s: read as %v, %d, %d", what, got, e, at)
	}
}

// asked fails, if a configuration can be said so, or not, other than is wanted.
func asked(t *testing.T, what string, c api.Config, want bool) {
	t.Helper()
	if want {
		taken(t, what, c)
	} else {
		refused(t, what, c)
	}
}

// P12.1: texts by hand.
func TestExport(t *testing.T) {
	one := api.Config{
		Rules:     []api.Rule{{Name: "a", Metric: "m", How: api.CAbove, Tries: 1}},
		Route:     api.Route{Receiver: "ops", By: []string{"Job", "sev"}, Wait: 5, Every: 60, Repeat: most, Mute: []string{"night"}},
		Receivers: []string{"ops", "1", "_"},
		Inhibits: []api.Inhibit{
			{Source: []api.Matcher{is("b", ""), is("a", "-")}, Target: []api.Matcher{{Name: "a", How: api.MNone, Words: []string{"", "x"}}}, Equal: []string{"host"}},
			inhibit(is("a", "1"), is("a", "2")),
		},
		Hours: []api.Hours{{Name: "week", Days: 31, From: 540, To: 1440}, {Name: "night", Days: 64, To: 1}},
	}
	one.Route.Routes = []api.Route{route("_"), {Receiver: "1", Match: []api.Matcher{{Name: "a", How: api.MOne, Words: []string{"1", "2"}}, {Name: "a", How: api.MNot, Words: []string{"1"}}}, Every: 1, Repeat: 2, On: true, Routes: []api.Route{route("ops")}}}
	end := func(in string) string {
		return in + "matchers: []\n" + in + "group_by: []\n" + in + "group_wait: 0\n" + in + "group_interval: 1\n" + in + "repeat_interval: 1\n" + in + "mute: []\n" + in + "continue: false\n" + in + "routes: []\n"
	}
	for _, x := range []struct {
		c    api.Config
		want string
	}{
		{small(), "route:\n  receiver: ops\n" + end("  ") + "receivers:\n  - ops\ninhibit_rules: []\ntime_intervals: []\n"},
		{one, "route:\n  receiver: ops\n  matchers: []\n  group_by:\n    - Job\n    - sev\n  group_wait: 5\n  group_interval: 60\n  repeat_interval: 1099511627776\n  mute:\n    - night\n  continue: false\n" +
			"  routes:\n    -\n      receiver: _\n" + end("      ") +
			"    -\n      receiver: 1\n      matchers:\n        - \"a=~\\\"1|2\\\"\"\n        - \"a!=\\\"1\\\"\"\n      group_by: []\n      group_wait: 0\n      group_interval: 1\n      repeat_interval: 2\n      mute: []\n      continue: true\n" +
			"      routes:\n        -\n          receiver: ops\n" + end("          ") +
			"receivers:\n  - 1\n  - _\n  - ops\n" +
			"inhibit_rules:\n  -\n    source:\n      - \"a=\\\"1\\\"\"\n    target:\n      - \"a=\\\"2\\\"\"\n    equal: []\n" +
			"  -\n    source:\n      - \"b=\\\"\\\"\"\n      - \"a=\\\"-\\\"\"\n    target:\n      - \"a!~\\\"|x\\\"\"\n    equal:\n      - host\n" +
			"time_intervals:\n  -\n    name: night\n    span: \"sun 00:00-00:01\"\n  -\n    name: week\n    span: \"mon,tue,wed,thu,fri 09:00-24:00\"\n"},
	} {
		if s, e := Export(x.c); s != x.want || e != api.OK {
			t.Errorf("%v: %d, %s\nnot\n%s", x.c, e, s, x.want)
		}
		taken(t, "by hand", x.c)
	}
}

// P12.1, P12.3: what may be in a configuration, each edge of it.
func TestHolds(t *testing.T) {
	taken(t, "small", small())
	for i, change := range []func(c *api.Config){
		func(c *api.Config) {},
		func(c *api.Config) { c.Route.Routes = nil },
		func(c *api.Config) { c.Route.Routes, c.Hours, c.Route.Mute, c.Inhibits = []api.Route{}, nil, nil, nil },
		func(c *api.Config) {
			c.Route.Match, c.Inhibits, c.Route.By = []api.Matcher{}, []api.Inhibit{}, []string{}
		},
		func(c *api.Config) { c.Receivers = []string{"dev", "ops", "qa"} }, // those that are named alone
		func(c *api.Config) { c.Receivers = append(c.Receivers, long(64), "_", "0", "receivers", "night") },
		func(c *api.Config) { c.Receivers = append(c.Receivers, many(12, strings.Clone)...) },
		func(c *api.Config) { c.Receivers[0], inner(c).Receiver = long(64), long(64) },
		func(c *api.Config) { c.Hours = append(c.Hours, many(5, span)...) },
		func(c *api.Config) { c.Hours = []api.Hours{c.Hours[2], c.Hours[0]} },
		func(c *api.Config) { c.Hours[1].Name = long(64) },
		func(c *api.Config) { c.Hours[0].Days, c.Hours[0].From, c.Hours[0].To = 1, 1439, 1440 },
		func(c *api.Config) { c.Hours[0].From, c.Hours[0].To = 599, 600 },
		func(c *api.Config) { c.Route.Wait, c.Route.Every, c.Route.Repeat = 0, 1, most },
		func(c *api.Config) { c.Route.Wait, c.Route.Every, c.Route.Repeat = most, most, 1 },
		func(c *api.Config) { inner(c).Wait, inner(c).Every, inner(c).Repeat = 10, 100, 1000 },
		func(c *api.Config) { c.Route.Mute = []string{"day", "night", "week"} },
		func(c *api.Config) {
			c.Hours = many(8, span)
			c.Route.Routes = nil
			c.Route.Mute = many(8, strings.Clone)
		},
		func(c *api.Config) { inner(c).By = many(8, strings.Clone) },
		func(c *api.Config) { inner(c).By = []string{"A", "_", long(64)} },
		func(c *api.Config) {
			inner(c).Match = many(8, func(word string) api.Matcher { return is(word, word) })
		},
		func(c *api.Config) { inner(c).Match = slices.Repeat([]api.Matcher{is("a", "1")}, 8) },
		func(c *api.Config) { inner(c).Routes = []api.Route{} },
		func(c *api.Config) { c.Route.Routes = many(16, func(string) api.Route { return route("qa") }) },
		func(c *api.Config) { c.Inhibits = append(c.Inhibits, c.Inhibits...) }, // each is written once
		func(c *api.Config) { c.Inhibits = slices.Repeat(c.Inhibits[1:2], 8) },
		func(c *api.Config) { c.Inhibits[0].Equal = many(8, strings.Clone) },
		func(c *api.Config) { c.Inhibits[0].Source = slices.Repeat(c.Inhibits[0].Source, 8) },
		func(c *api.Config) { c.Inhibits[0].Target = slices.Repeat(c.Inhibits[0].Target, 8) },
		func(c *api.Config) { c.Inhibits[0].Target = c.Inhibits[0].Source },
		func(c *api.Config) {
			c.Inhibits[0].Source, c.Inhibits[0].Target = c.Inhibits[0].Target, c.Inhibits[0].Source
		},
	} {
		taken(t, strconv.Itoa(i), with(change))
	}
}

// P12.1, P12.3: each byte, wherever it may stand.
func TestBytes(t *testing.T) {
	for b := range 256 {
		one := string([]byte{byte(b)})
		word, name, text := strings.Contains(wordBytes, one), strings.Contains(nameBytes, one), strings.Contains(textBytes, one)
		first := name && !strings.Contains(notFirst, one)
		asked(t, "receiver "+one, with(func(c *api.Config) { c.Receivers[3] = one }), word)
		asked(t, "receiver "+one, with(func(c *api.Config) { c.Receivers[0], inner(c).Receiver = one+"x", one+"x" }), word)
		asked(t, "hours "+one, with(func(c *api.Config) { c.Hours[1].Name = "x" + one }), word)
		asked(t, "by "+one, with(func(c *api.Config) { inner(c).By = []string{one} }), first)
		asked(t, "by "+one, with(func(c *api.Config) { inner(c).By = []string{"x" + one} }), name)
		asked(t, "equal "+one, with(func(c *api.Config) { c.Inhibits[0].Equal = []string{"x" + one} }), name)
		asked(t, "name "+one, with(func(c *api.Config) { inner(c).Match[0].Name = "x" + one }), name)
		asked(t, "word "+one, with(func(c *api.Config) { inner(c).Match[0].Words[1] = "x" + one }), text)
		asked(t, "source "+one, with(func(c *api.Config) { c.Inhibits[0].Source[0].Words[0] = one }), text)
		asked(t, "target "+one, with(func(c *api.Config) { c.Inhibits[1].Target[1].Name = one }), first)
	}
}

// wrong are configurations that can't be said so, each for one thing alone.
func wrong() []api.Config {
	l := []api.Config{{}, {Receivers: []string{"ops"}}, {Route: route("ops")}}
	for _, change := range []func(c *api.Config){
		func(c *api.Config) { c.Route.Match = []api.Matcher{is("a", "1")} },
		func(c *api.Config) { c.Route.On = true },
		func(c *api.Config) { c.Route.Receiver = "no" },
		func(c *api.Config) { inner(c).Receiver = "no" },
		func(c *api.Config) { inner(c).Receiver = "" },
		func(c *api.Config) { c.Receivers = c.Receivers[1:] },
		func(c *api.Config) { c.Receivers = append(c.Receivers, "ops") },
		func(c *api.Config) { c.Receivers = append(c.Receivers, many(13, strings.Clone)...) },
		func(c *api.Config) { c.Receivers[3] = "" },
		func(c *api.Config) { c.Receivers[3] = long(65) },
		func(c *api.Config) { c.Route.Wait = -1 },
		func(c *api.Config) { c.Route.Wait = most + 1 },
		func(c *api.Config) { c.Route.Every = 0 },
		func(c *api.Config) { c.Route.Every = math.MaxInt },
		func(c *api.Config) { inner(c).Repeat = 0 },
		func(c *api.Config) { inner(c).Repeat = math.MinInt },
		func(c *api.Config) { inner(c).By = many(9, strings.Clone) },
		func(c *api.Config) { inner(c).By = []string{"b", "a"} },
		func(c *api.Config) { inner(c).By = []string{"a", "a"} },
		func(c *api.Config) { inner(c).By = []string{long(65)} },
		func(c *api.Config) { inner(c).Mute = []string{"no"} },
		func(c *api.Config) { inner(c).Mute = []string{"night", "day"} },
		func(c *api.Config) { inner(c).Mute = []string{"day", "day"} },
		func(c *api.Config) {
			inner(c).Match = many(9, func(word string) api.Matcher { return is(word, word) })
		},
		func(c *api.Config) { inner(c).Match[0].How = 0 },
		func(c *api.Config) { inner(c).Match[0].How = 5 },
		func(c *api.Config) { inner(c).Match[0].How = api.MIs }, // of two words
		func(c *api.Config) { inner(c).Match[0].Words = nil },
		func(c *api.Config) { inner(c).Match[0].Words = []string{"2", "1"} },
		func(c *api.Config) { inner(c).Match[0].Words = many(9, strings.Clone) },
		func(c *api.Config) { inner(c).Match[0].Words = []string{long(65)} },
		func(c *api.Config) { inner(c).Match[0].Name = "" },
		func(c *api.Config) { inner(c).Routes = []api.Route{route("qa")} }, // 4 deep, that may be otherwise
		func(c *api.Config) { c.Route.Routes[0].Routes[1].Routes = []api.Route{route("ops")} },
		func(c *api.Config) {
			c.Route.Routes[1].Routes = []api.Route{route("ops", route("ops", route("ops")))}
		}, // 5 deep
		func(c *api.Config) { c.Route.Routes = many(17, func(string) api.Route { return route("qa") }) },
		func(c *api.Config) {
			c.Route.Routes = many(2, func(string) api.Route {
				return route("qa", many(15, func(string) api.Route { return route("qa") })...)
			})
		}, // 33 routes
		func(c *api.Config) { c.Inhibits = slices.Repeat(c.Inhibits[:1], 9) },
		func(c *api.Config) { c.Inhibits[2].Source = nil },
		func(c *api.Config) { c.Inhibits[2].Target = nil },
		func(c *api.Config) { c.Inhibits[2].Source = slices.Repeat(c.Inhibits[2].Source, 9) },
		func(c *api.Config) { c.Inhibits[2].Target = slices.Repeat(c.Inhibits[2].Target, 9) },
		func(c *api.Config) { c.Inhibits[2].Target[0].Words = nil },
		func(c *api.Config) { c.Inhibits[0].Equal = []string{"job", "host"} },
		func(c *api.Config) { c.Inhibits[0].Equal = many(9, strings.Clone) },
		func(c *api.Config) { c.Hours[1].Name = "" },
		func(c *api.Config) { c.Hours[1].Name = "day" },
		func(c *api.Config) { c.Hours[1].Name = long(65) },
		func(c *api.Config) { c.Hours[1].Days = 0 },
		func(c *api.Config) { c.Hours[1].Days = 128 },
		func(c *api.Config) { c.Hours[1].From = 1050 },
		func(c *api.Config) { c.Hours[1].To = 1441 },
		func(c *api.Config) { c.Hours = c.Hours[1:] },
		func(c *api.Config) { c.Hours = append(c.Hours, many(6, span)...) },
		func(c *api.Config) { inner(c).Match = []api.Matcher{sized(201)} },
	} {
		l = append(l, with(change))
	}
	return l
}

// P12.1, P1: configurations that can't be said so.
func TestWrong(t *testing.T) {
	for i, c := range wrong() {
		refused(t, strconv.Itoa(i), c)
		c.Rules = []api.Rule{{Name: "a", Metric: "m", How: api.CAbove, Tries: 1}}
		refused(t, strconv.Itoa(i), c)
	}
}

// P12.1, P1: how deep a route is, and how many routes.
func TestDeep(t *testing.T) {
	c := small()
	for deep := 2; deep <= 9; deep++ {
		c.Route = route("ops", c.Route)
		asked(t, strconv.Itoa(deep), c, deep <= 3)
		for place := range 3 { // the deepest one stands anywhere
			wide := c
			wide.Route.Routes = []api.Route{route("ops"), route("ops"), route("ops")}
			wide.Route.Routes[place] = c.Route.Routes[0]
			asked(t, fmt.Sprint(deep, place), wide, deep <= 3)
		}
	}
	c.Route = route("ops", many(2, func(string) api.Route {
		return route("ops", many(15, func(string) api.Route { return route("ops") })...)
	})...)
	refused(t, "33 routes", c)
	c.Route.Routes[0].Routes = c.Route.Routes[0].Routes[1:]
	taken(t, "32 routes", c)
	refused(t, "a route that holds itself", with(func(c *api.Config) { *inner(c) = c.Route }))
	refused(t, "routes that hold themselves", with(func(c *api.Config) { c.Route.Routes[0].Routes = c.Route.Routes }))
}

// P12.1, P12.3: how many bytes a matcher's text has, wherever it stands.
func TestMatchers(t *testing.T) {
	var places []func(c *api.Config) *[]api.Matcher
	for i := range 2 {
		places = append(places,
			func(c *api.Config) *[]api.Matcher { return &c.Route.Routes[i].Match },
			func(c *api.Config) *[]api.Matcher { return &c.Route.Routes[0].Routes[i].Match },
			func(c *api.Config) *[]api.Matcher { return &c.Inhibits[i].Source },
			func(c *api.Config) *[]api.Matcher { return &c.Inhibits[i+1].Target },
		)
	}
	for bytes := 190; bytes <= 210; bytes++ {
		m := sized(bytes)
		if got := len(trueMatcher(m)); got != bytes {
			t.Fatalf("%d bytes, not %d: %v", got, bytes, m)
		}
		for i, place := range places {
			for at := range 3 {
				c := full()
				l := []api.Matcher{is("a", "1"), is("a", "1"), is("a", "1")}
				l[at] = m
				*place(&c) = l
				asked(t, fmt.Sprint(bytes, i, at), c, bytes <= 200)
				m.How = api.MNone
				l[at] = m
				asked(t, fmt.Sprint(bytes, i, at), c, bytes <= 200)
			}
		}
	}
	longest := api.Matcher{Name: long(64), How: api.MOne, Words: many(8, func(word string) string { return word + long(61) })}
	for i, place := range places {
		c := full()
		*place(&c) = []api.Matcher{longest}
		refused(t, "the longest "+strconv.Itoa(i), c)
	}
}

// P12.1, P12.3: rules are neither asked nor written.
func TestRules(t *testing.T) {
	want, _ := Export(full())
	right := api.Rule{Name: "a", Metric: "m", How: api.CAbove, Tries: 1}
	for i, l := range [][]api.Rule{
		nil, {}, {right}, {right, right}, {{}}, {{Name: "b", Metric: "m", How: 9}}, slices.Repeat([]api.Rule{right}, 17), make([]api.Rule, 1000),
	} {
		c := full()
		c.Rules = l
		taken(t, strconv.Itoa(i), c)
		if s, e := Export(c); s != want || e != api.OK {
			t.Errorf("%d: %s, %d", i, s, e)
		}
	}
}

// P12.1: texts of about 8192 bytes; what can't be said so is told ahead of what is too long.
func TestLong(t *testing.T) {
	for bytes := 8150; bytes <= 8240; bytes++ {
		c := ofBytes(t, bytes)
		s, e := Export(c)
		if bytes <= 8192 && (s != trueText(trueNormal(c)) || e != api.OK) || bytes > 8192 && (s != "" || e != api.ErrLong) {
			t.Errorf("%d bytes: %d, %q", bytes, e, s)
		}
		taken(t, strconv.Itoa(bytes), c)
		c.Inhibits[7].Source[7] = sized(201)
		refused(t, "too long, and a matcher", c)
		c = ofBytes(t, bytes)
		inner(&c).Routes = []api.Route{route("ops")}
		refused(t, "too long, and too deep", c)
	}
	wide := func(how int) []api.Matcher { return slices.Repeat([]api.Matcher{sized(200)}, how) }
	c := small()
	c.Inhibits = many(8, func(word string) api.Inhibit {
		return api.Inhibit{Source: wide(8), Target: wide(8), Equal: []string{word}}
	})
	taken(t, "long inhibits", c)
	c.Route.Routes = many(16, func(string) api.Route {
		r := route("ops")
		r.Match = wide(8)
		return r
	})
	taken(t, "long routes, too", c)
	for _, how := range []int{4, 5} { // a text that is too long with all, and not without what is there twice
		c = small()
		c.Inhibits = slices.Repeat([]api.Inhibit{{Source: wide(8), Target: wide(how)}}, 8)
		if s, e := Export(c); e != api.OK || len(trueText(c)) <= 8192 || s != trueText(trueNormal(c)) {
			t.Errorf("%d bytes: %d, %s", len(trueText(c)), e, s)
		}
		taken(t, "inhibits of one text", c)
	}
}

// P12.1, P12.3, P2: random configurations; others of one normal form have one text.
func TestRandom(t *testing.T) {
	random := rand.New(rand.NewSource(1))
	short := 0
	for range 3000 {
		c := randomConfig(random)
		taken(t, "random", c)
		other := shuffled(random, c)
		taken(t, "random", other)
		a, e1 := Export(c)
		b, e2 := Export(other)
		if a != b || e1 != e2 {
			t.Fatalf("%v and %v are written as\n%s, %d, and\n%s, %d", c, other, a, e1, b, e2)
		}
		if e1 == api.OK {
			short++
		}
	}
	if short < 1500 {
		t.Errorf("%d have a text", short)
	}
}

// P12.3: configurations that differ have other texts.
func TestDiffer(t *testing.T) {
	l := []api.Config{small()}
	for _, change := range []func(c *api.Config){
		func(c *api.Config) {},
		func(c *api.Config) { c.Route.Receiver = "qa" },
		func(c *api.Config) { c.Route.By = nil },
		func(c *api.Config) { c.Route.Wait = 31 },
		func(c *api.Config) { c.Route.Every = 61 },
		func(c *api.Config) { c.Route.Repeat = 701 },
		func(c *api.Config) { c.Route.Wait, c.Route.Every = 60, 30 },
		func(c *api.Config) { c.Route.Every, c.Route.Repeat = 700, 60 },
		func(c *api.Config) { c.Route.Mute = nil },
		func(c *api.Config) { c.Route.Mute, c.Route.By = []string{"day"}, []string{"night"} },
		func(c *api.Config) { c.Route.Routes[1].On = true },
		func(c *api.Config) { c.Route.Routes[0].On = false },
		func(c *api.Config) { c.Route.Routes[0], c.Route.Routes[1] = c.Route.Routes[1], c.Route.Routes[0] },
		func(c *api.Config) { slices.Reverse(c.Route.Routes[0].Match) },
		func(c *api.Config) { inner(c).Match[0].How = api.MOne },
		func(c *api.Config) { inner(c).Match[0].Name = "d" },
		func(c *api.Config) { inner(c).Match[0].Words = []string{"x:y"} },
		func(c *api.Config) { c.Receivers = c.Receivers[:3] },
		func(c *api.Config) { c.Inhibits = c.Inhibits[1:] },
		func(c *api.Config) { c.Inhibits[0].Equal = c.Inhibits[0].Equal[1:] },
		func(c *api.Config) { slices.Reverse(c.Inhibits[1].Source) },
		func(c *api.Config) {
			c.Inhibits[1].Source, c.Inhibits[1].Target = c.Inhibits[1].Target, c.Inhibits[1].Source
		},
		func(c *api.Config) { c.Hours[1].Name = "x" },
		func(c *api.Config) { c.Hours[1].Days = 30 },
		func(c *api.Config) { c.Hours[1].From = 541 },
		func(c *api.Config) { c.Hours[1].To = 1049 },
	} {
		l = append(l, with(change))
	}
	for i, a := range l {
		for _, b := range l[:i] {
			x, e1 := Export(a)
			y, e2 := Export(b)
			if x == y || e1 != api.OK || e2 != api.OK {
				t.Errorf("%v and %v: %d, %d, %s", a, b, e1, e2, x)
			}
		}
	}
}

// R1, R4: calls answer the same again, whatever is done with what they answered, and lists that are handed in stay as they were.
func TestListsStay(t *testing.T) {
	c := full()
	text := trueText(full())
	for range 3 {
		if s, e := Export(c); s != trueText(trueNormal(full())) || e != api.OK || !Holds(c) {
			t.Fatal(s, e)
		}
		got, e, at := Import(text)
		if !same(got, full()) || e != api.OK || at != 0 {
			t.Fatal(got, e, at)
		}
		for i := range got.Receivers {
			got.Receivers[i] = "other"
		}
		got.Route.Routes[0].Match[0].Words[0] = "other"
		got.Inhibits[0].Source[0] = is("other", "other")
		got.Hours[0] = span("other")
		_ = append(got.Route.Routes[0].Routes, route("more"))
		_ = append(got.Inhibits[0].Equal, "more")
		rest := full()
		if !sameRoute(got.Route.Routes[1], rest.Route.Routes[1]) || !slices.EqualFunc(got.Inhibits[1:], rest.Inhibits[1:], sameInhibit) {
			t.Fatalf("lists are shared: %v", got)
		}
		if !reflect.DeepEqual(c, full()) {
			t.Fatalf("the configuration came to be %v", c)
		}
	}
}
