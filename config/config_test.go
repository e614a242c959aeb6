package config

import (
	"fmt"
	"math"
	"math/rand"
	"reflect"
	"slices"
	"strconv"
	"strings"
	"testing"

	"transhipment/api"
)

const (
	wordBytes = "abcdefghijklmnopqrstuvwxyz0123456789_"
	nameBytes = "ABCDEFGHIJKLMNOPQRSTUVWXYZabcdefghijklmnopqrstuvwxyz_0123456789"
	notFirst  = "0123456789"
	most      = 1099511627776 // of ticks and of values
)

// rule is a rule that may be, and has no more than it must have.
func rule(name string) api.Rule {
	return api.Rule{Name: name, Metric: "m", How: api.CAbove, Tries: 1}
}

// route is a route that may be, and has no more than it must have, beside routes within it.
func route(receiver string, within ...api.Route) api.Route {
	return api.Route{Receiver: receiver, Every: 1, Repeat: 1, Routes: within}
}

// is is a matcher that holds of the sets in which a name has just that value.
func is(name, value string) api.Matcher {
	return api.Matcher{Name: name, How: api.MIs, Words: []string{value}}
}

// inhibit is one of a matcher each.
func inhibit(source, target api.Matcher, equal ...string) api.Inhibit {
	return api.Inhibit{Source: []api.Matcher{source}, Target: []api.Matcher{target}, Equal: equal}
}

// span is hours that may be.
func span(name string) api.Hours { return api.Hours{Name: name, Days: 127, To: 60} }

// small is a configuration that may be, and has no more than it must have.
func small() api.Config {
	return api.Config{Route: route("ops"), Receivers: []string{"ops"}}
}

// full is a configuration of which no part is as in one that has nothing, and no list in order.
func full() api.Config {
	within := route("dev", route("qa"), route("ops"))
	within.Match, within.By, within.Wait, within.On = []api.Matcher{is("b", "2"), is("a", "1")}, []string{"job", "sev"}, 5, true
	within.Routes[0].Mute, within.Routes[0].On = []string{"day", "night"}, true
	top := route("ops", within, route("dev"))
	top.By, top.Wait, top.Every, top.Repeat, top.Mute = []string{"alert"}, 30, 60, 700, []string{"night"}
	high := rule("high")
	high.How, high.Limit, high.For, high.Keep, high.Tries = api.CTo, -5, 1000, 2000, 3
	high.Labels = []api.Label{{Name: "sev", Value: "hi"}, {Name: "team", Value: "a b"}}
	return api.Config{
		Rules:     []api.Rule{rule("low"), high, rule("all")},
		Route:     top,
		Receivers: []string{"qa", "ops", "dev", "all"},
		Inhibits: []api.Inhibit{
			inhibit(is("sev", "hi"), is("sev", "lo"), "host", "job"),
			{Source: []api.Matcher{is("b", "2"), is("a", "1")}, Target: []api.Matcher{{Name: "c", How: api.MNone, Words: []string{"1", "2"}}, is("c", "3")}},
			inhibit(is("b", "2"), is("a", "1")),
		},
		Hours: []api.Hours{{Name: "night", Days: 127, To: 360}, {Name: "week", Days: 31, From: 540, To: 1050}, {Name: "day", Days: 96, From: 1, To: 1440}},
	}
}

// copied is a list in other memory, never nil, of what a function makes of each thing.
func copied[T any](l []T, one func(T) T) []T {
	other := []T{}
	for _, x := range l {
		other = append(other, one(x))
	}
	return other
}

// itselfOf is what it is handed.
func itselfOf[T any](x T) T { return x }

func copiedMatcher(m api.Matcher) api.Matcher {
	m.Words = copied(m.Words, itselfOf)
	return m
}

func copiedRoute(r api.Route) api.Route {
	r.Match, r.By, r.Mute, r.Routes = copied(r.Match, copiedMatcher), copied(r.By, itselfOf), copied(r.Mute, itselfOf), copied(r.Routes, copiedRoute)
	return r
}

func copiedRule(r api.Rule) api.Rule {
	r.Labels = copied(r.Labels, itselfOf)
	return r
}

func copiedInhibit(x api.Inhibit) api.Inhibit {
	return api.Inhibit{Source: copied(x.Source, copiedMatcher), Target: copied(x.Target, copiedMatcher), Equal: copied(x.Equal, itselfOf)}
}

// copiedConfig is a configuration in other memory, whose lists are never nil.
func copiedConfig(c api.Config) api.Config {
	return api.Config{
		Rules:     copied(c.Rules, copiedRule),
		Route:     copiedRoute(c.Route),
		Receivers: copied(c.Receivers, itselfOf),
		Inhibits:  copied(c.Inhibits, copiedInhibit),
		Hours:     copied(c.Hours, itselfOf),
	}
}

// same holds configurations against each other, as they stand.
func same(a, b api.Config) bool { return reflect.DeepEqual(copiedConfig(a), copiedConfig(b)) }

// show is a thing as a text, of which no more than its beginning stands.
func show(x any) string {
	s := fmt.Sprint(x)
	return strconv.Quote(s[:min(len(s), 1000)])
}

// long is a text of that many bytes.
func long(many int) string { return strings.Repeat("n", many) }

// letters are words of one letter, so many, from `a` on.
func letters(many int) []string {
	var words []string
	for i := range many {
		words = append(words, string([]byte{'a' + byte(i)}))
	}
	return words
}

// many are so many things, each of which is made of another word.
func many[T any](how int, one func(word string) T) []T {
	var l []T
	for i := range how {
		l = append(l, one("w"+strconv.Itoa(i)))
	}
	return l
}

// refused fails, if a configuration may be, or if a call tells more of it than ErrArg.
func refused(t *testing.T, what string, c api.Config) {
	t.Helper()
	if Right(c) {
		t.Errorf("%s: %s may be", what, show(c))
	}
	if n, e := Normal(c); e != api.ErrArg || !reflect.DeepEqual(n, api.Config{}) {
		t.Errorf("%s: normal form %s, %d", what, show(n), e)
	}
	if text, e := Text(c); e != api.ErrArg || text != "" {
		t.Errorf("%s: text %q, %d", what, text, e)
	}
	if mark, e := Mark(c); e != api.ErrArg || mark != "" {
		t.Errorf("%s: mark %q, %d", what, mark, e)
	}
	if Same(c, c) || Same(c, small()) || Same(small(), c) || Same(c, full()) || Same(full(), c) {
		t.Errorf("%s: %s is the same as another one", what, show(c))
	}
}

// taken fails, if a configuration may not be.
func taken(t *testing.T, what string, c api.Config) {
	t.Helper()
	if !Right(c) || !Same(c, c) {
		t.Errorf("%s: %s may not be", what, show(c))
	}
	if n, e := Normal(c); e != api.OK || !same(n, trueNormal(c)) {
		t.Errorf("%s: normal form %s, %d", what, show(n), e)
	}
}

// asked fails, if a configuration may be, or not, other than is wanted.
func asked(t *testing.T, what string, c api.Config, want bool) {
	t.Helper()
	if want {
		taken(t, what, c)
	} else {
		refused(t, what, c)
	}
}

// trueNormal is the normal form, found in another way: each thing goes ahead of the first one that is greater.
func trueNormal(c api.Config) api.Config {
	n := api.Config{Route: c.Route}
	for _, r := range c.Rules {
		at := 0
		for at < len(n.Rules) && n.Rules[at].Name <= r.Name {
			at++
		}
		n.Rules = slices.Insert(n.Rules, at, r)
	}
	for _, word := range c.Receivers {
		at := 0
		for at < len(n.Receivers) && n.Receivers[at] <= word {
			at++
		}
		n.Receivers = slices.Insert(n.Receivers, at, word)
	}
	for _, h := range c.Hours {
		at := 0
		for at < len(n.Hours) && n.Hours[at].Name <= h.Name {
			at++
		}
		n.Hours = slices.Insert(n.Hours, at, h)
	}
	for _, x := range c.Inhibits {
		at := 0
		for at < len(n.Inhibits) && trueInhibit(n.Inhibits[at]) < trueInhibit(x) {
			at++
		}
		if at == len(n.Inhibits) || trueInhibit(n.Inhibits[at]) != trueInhibit(x) {
			n.Inhibits = slices.Insert(n.Inhibits, at, x)
		}
	}
	return n
}

// changed is the full configuration, with a change.
func changed(change func(c *api.Config)) api.Config {
	c := full()
	change(&c)
	return c
}

// P10.1: configurations that may be.
func TestRight(t *testing.T) {
	taken(t, "small", small())
	taken(t, "full", full())
	for i, change := range []func(c *api.Config){
		func(c *api.Config) { c.Rules = nil },
		func(c *api.Config) { c.Rules = []api.Rule{} },
		func(c *api.Config) { c.Rules[1].Limit = -most },
		func(c *api.Config) { c.Rules[0].Name = "ops" }, // names of other kinds are others
		func(c *api.Config) { c.Rules[0].Metric = "all" },
		func(c *api.Config) { c.Receivers = []string{"dev", "ops", "qa"} }, // those that are named alone
		func(c *api.Config) { c.Receivers = append(c.Receivers, "night", long(64), "_", "0") },
		func(c *api.Config) { c.Inhibits = nil },
		func(c *api.Config) { c.Inhibits = append(c.Inhibits, c.Inhibits...) },
		func(c *api.Config) { c.Inhibits[0].Equal = nil },
		func(c *api.Config) { c.Inhibits[0].Equal = []string{"Alert", "alert"} },
		func(c *api.Config) { c.Inhibits[0].Source = append(c.Inhibits[0].Source, c.Inhibits[0].Source...) },
		func(c *api.Config) { c.Inhibits[0].Target = c.Inhibits[0].Source },
		func(c *api.Config) { c.Inhibits[0].Source[0] = is("a", "") },
		func(c *api.Config) { c.Hours = append(c.Hours, span("ops"), span("high"), span(long(64))) },
		func(c *api.Config) { c.Hours[0].Days = 1 },
		func(c *api.Config) { c.Hours = []api.Hours{c.Hours[2], c.Hours[0]} }, // those that are named alone
		func(c *api.Config) { c.Route.Match = []api.Matcher{} },
		func(c *api.Config) { c.Route.Mute = nil },
		func(c *api.Config) { c.Route.Repeat = most },
		func(c *api.Config) { c.Route.Routes = nil },
		func(c *api.Config) { c.Route.Routes[1].On = true },
		func(c *api.Config) { c.Route.Routes[1].Match = []api.Matcher{is("x", "")} },
		func(c *api.Config) { c.Route.Routes[0].Routes[1].Mute = []string{"day", "night", "week"} },
		func(c *api.Config) { c.Route.Routes[0].Routes[1].Receiver = "all" },
		func(c *api.Config) { c.Route.Routes[0].Routes[1].Routes = []api.Route{route("dev")} },
	} {
		taken(t, strconv.Itoa(i), changed(change))
	}
}

// P10.1, P10.2, P1: configurations that may not be, for one thing alone.
func TestWrong(t *testing.T) {
	refused(t, "nothing", api.Config{})
	for i, change := range []func(c *api.Config){
		func(c *api.Config) { c.Rules[1].Limit = -most - 1 },
		func(c *api.Config) { c.Rules[2].Name = "" },
		func(c *api.Config) { c.Rules[0].Name = "high" },
		func(c *api.Config) { c.Rules[2] = c.Rules[1] },
		func(c *api.Config) { c.Rules[1].Labels[0].Name = "alert" },
		func(c *api.Config) { c.Receivers[3] = "" },
		func(c *api.Config) { c.Receivers[3] = "Ops" },
		func(c *api.Config) { c.Receivers[3] = "ops" },
		func(c *api.Config) { c.Receivers[3] = long(65) },
		func(c *api.Config) { c.Receivers = nil },
		func(c *api.Config) { c.Receivers = []string{"dev", "ops"} }, // qa is named deep within
		func(c *api.Config) { c.Receivers = []string{"dev", "qa"} },
		func(c *api.Config) { c.Receivers = []string{"qa", "ops"} },
		func(c *api.Config) { c.Inhibits[2].Source = nil },
		func(c *api.Config) { c.Inhibits[2].Target = nil },
		func(c *api.Config) { c.Inhibits[2].Source[0].How = 0 },
		func(c *api.Config) { c.Inhibits[2].Target[0].Words = nil },
		func(c *api.Config) { c.Inhibits[1].Source[1].Name = "" },
		func(c *api.Config) { c.Inhibits[1].Target[0].Words = []string{"2", "1"} },
		func(c *api.Config) { c.Inhibits[0].Equal = []string{"job", "host"} },
		func(c *api.Config) { c.Inhibits[0].Equal = []string{"job", "job"} },
		func(c *api.Config) { c.Inhibits[0].Equal = []string{""} },
		func(c *api.Config) { c.Inhibits = append(c.Inhibits, api.Inhibit{}) },
		func(c *api.Config) { c.Hours[1].Days = 128 },
		func(c *api.Config) { c.Hours[1].Name = "day" },
		func(c *api.Config) { c.Hours[1] = c.Hours[0] },
		func(c *api.Config) { c.Hours[1].Name = "" },
		func(c *api.Config) { c.Hours = nil },
		func(c *api.Config) { c.Hours = c.Hours[:2] }, // day is named deep within
		func(c *api.Config) { c.Hours = c.Hours[1:] },
		func(c *api.Config) { c.Route.Match = []api.Matcher{is("a", "1")} },
		func(c *api.Config) { c.Route.Match = []api.Matcher{{Name: "x", How: api.MNot, Words: []string{"1"}}} },
		func(c *api.Config) { c.Route.On = true },
		func(c *api.Config) { c.Route.Receiver = "no" },
		func(c *api.Config) { c.Route.Receiver = "night" },
		func(c *api.Config) { c.Route.Receiver = "" },
		func(c *api.Config) { c.Route.Every = 0 },
		func(c *api.Config) { c.Route.Mute = []string{"nig"} },
		func(c *api.Config) { c.Route.Mute = []string{"night", "ops"} },
		func(c *api.Config) { c.Route.Routes[0].Routes[1].Receiver = "no" },
		func(c *api.Config) { c.Route.Routes[0].Routes[1].Mute = []string{"no"} },
		func(c *api.Config) { c.Route.Routes[0].Routes[1].Mute = []string{"night", "week", "work"} },
		func(c *api.Config) { c.Route.Routes[1].Wait = -1 },
		func(c *api.Config) { c.Route.Routes[1].Match = []api.Matcher{{}} },
		func(c *api.Config) { c.Route.Routes[1].Routes = []api.Route{route("ops", route("ops", route("ops")))} },
		func(c *api.Config) { c.Route = api.Route{} },
	} {
		refused(t, strconv.Itoa(i), changed(change))
	}
}

// P10.1: how many there may be of each thing, and a wrong one, or one that is there twice, at each place.
func TestRightMany(t *testing.T) {
	for how := range 40 {
		c := small()
		c.Rules = many(how, rule)
		asked(t, "rules", c, how <= 16)
		for i := range c.Rules {
			c.Rules[i].Tries = 0
			refused(t, "a wrong rule", c)
			c.Rules[i].Tries = 1
		}
		c = small()
		c.Receivers = append(many(how, itselfOf[string]), "ops")
		asked(t, "receivers", c, how < 16)
		for i := range how {
			word := c.Receivers[i]
			c.Receivers[i] = "a b"
			refused(t, "a wrong receiver", c)
			c.Receivers[i] = word
		}
		c = small()
		c.Hours = many(how, span)
		asked(t, "hours", c, how <= 8)
		for i := range c.Hours {
			c.Hours[i].To = 0
			refused(t, "wrong hours", c)
			c.Hours[i].To = 60
		}
		c = small()
		c.Inhibits = many(how, func(word string) api.Inhibit { return inhibit(is("a", word), is("b", "1")) })
		asked(t, "inhibits", c, how <= 8)
		for i := range c.Inhibits {
			c.Inhibits[i].Equal = []string{""}
			refused(t, "a wrong inhibit", c)
			c.Inhibits[i].Equal = nil
		}
		for i := range c.Inhibits { // they count as they stand, though they are there once in the normal form
			c.Inhibits[i] = c.Inhibits[0]
		}
		asked(t, "the same inhibit", c, how <= 8)
	}
}

// P10.1: no name is there twice, wherever it stands.
func TestRightTwice(t *testing.T) {
	for how := range 9 {
		for i := range how {
			for j := range how {
				c := small()
				c.Rules, c.Receivers, c.Hours = many(how, rule), append(many(how, itselfOf[string]), "ops"), many(how, span)
				taken(t, "other names", c)
				c.Rules[j].Name, c.Rules[j].Metric = c.Rules[i].Name, "other"
				asked(t, "a rule's name twice", c, i == j)
				c.Rules = nil
				c.Receivers[j] = c.Receivers[i]
				asked(t, "a receiver twice", c, i == j)
				c.Receivers = []string{"ops"}
				c.Hours[j].Name, c.Hours[j].From = c.Hours[i].Name, 1
				asked(t, "hours' name twice", c, i == j)
			}
		}
	}
}

// P10.1: each byte of a receiver and of a name of Equal, and how long they are.
func TestRightTexts(t *testing.T) {
	for _, x := range []struct {
		set         func(c *api.Config, s string)
		bytes, only string // bytes that may be, and those of them that may not be the first
	}{
		{func(c *api.Config, s string) { c.Receivers = []string{s, "ops"} }, wordBytes, ""},
		{func(c *api.Config, s string) { c.Inhibits = []api.Inhibit{inhibit(is("a", ""), is("b", ""), s)} }, nameBytes, notFirst},
	} {
		asks := func(text string) bool {
			c := small()
			x.set(&c, text)
			return Right(c)
		}
		for b := range 256 {
			one := string([]byte{byte(b)})
			within := strings.Contains(x.bytes, one)
			first := within && !strings.Contains(x.only, one)
			for text, want := range map[string]bool{one: first, one + "x": first, "x" + one: within, "x" + one + "x": within} {
				if got := asks(text); got != want {
					t.Errorf("%q may be: %v", text, got)
				}
			}
		}
		for many := range 200 {
			if got := asks(long(many)); got != (many >= 1 && many <= 64) {
				t.Errorf("a text of %d bytes may be: %v", many, got)
			}
		}
	}
}

// P10.1: names of Equal rise, and are at most eight.
func TestRightEqual(t *testing.T) {
	for how := range 20 {
		for i := range max(how, 1) {
			for j := range max(how, 1) {
				c := small()
				equal := letters(how)
				if how > 0 {
					equal[j] = equal[i]
				}
				c.Inhibits = []api.Inhibit{inhibit(is("a", ""), is("b", ""), equal...)}
				if got := Right(c); got != (i == j && how <= 8) {
					t.Errorf("%q may be: %v", equal, got)
				}
			}
		}
	}
	for _, equal := range [][]string{{"a", "Z"}, {"aa", "a"}, {"a", "c", "b"}, {"b", "a"}} {
		c := small()
		c.Inhibits = []api.Inhibit{inhibit(is("a", ""), is("b", ""), equal...)}
		refused(t, "names that fall", c)
	}
}

// P10.1: how many matchers an inhibit may have, in any order, and a wrong one at each place.
func TestRightMatch(t *testing.T) {
	for _, set := range []func(x *api.Inhibit, l []api.Matcher){
		func(x *api.Inhibit, l []api.Matcher) { x.Source = l },
		func(x *api.Inhibit, l []api.Matcher) { x.Target = l },
	} {
		for how := range 20 {
			c := small()
			c.Inhibits = []api.Inhibit{inhibit(is("a", "1"), is("b", "1"))}
			l := many(how, func(word string) api.Matcher { return is("a", word) })
			slices.Reverse(l)
			set(&c.Inhibits[0], l)
			asked(t, "matchers", c, how >= 1 && how <= 8)
			for i := range l {
				l[i].Words = append(l[i].Words, "x")
				refused(t, "a wrong matcher", c)
				l[i].Words = l[i].Words[:1]
			}
		}
	}
}

// row is a route with so many ones within it, each of a receiver, and so many within the first one.
func row(how, within int) api.Route {
	one := func(string) api.Route { return route("ops") }
	r := route("ops", many(how, one)...)
	if within > 0 {
		r.Routes[0].Routes = many(within, one)
	}
	return r
}

// P10.1: how many routes there may be.
func TestRightRoutes(t *testing.T) {
	for how := 1; how <= 16; how++ {
		for within := 0; within <= 16; within++ {
			c := small()
			c.Route = row(how, within)
			asked(t, "routes", c, 1+how+within <= 32)
		}
	}
	c := small()
	c.Route = row(16, 14)
	c.Route.Routes[15].Routes = []api.Route{route("ops")}
	taken(t, "32 routes", c)
	c.Route.Routes[15].Routes = []api.Route{route("ops", route("ops"))}
	refused(t, "33 routes", c)
	c.Route = row(16, 16)
	for i := range c.Route.Routes {
		c.Route.Routes[i].Routes = row(16, 16).Routes
	}
	refused(t, "very many routes", c)
	c.Route = row(17, 0)
	refused(t, "17 within one", c)
}

// P10.1, P1: a route that holds itself, and things of very many, may not be.
func TestRightEnds(t *testing.T) {
	c := small()
	c.Route = row(16, 0)
	for i := range c.Route.Routes {
		c.Route.Routes[i] = c.Route
	}
	if Right(c) || Same(c, c) {
		t.Error("a route that holds itself may be")
	}
	if _, e := Mark(c); e != api.ErrArg {
		t.Error("a route that holds itself has a mark")
	}
	c = full()
	c.Rules = make([]api.Rule, 100000)
	refused(t, "very many rules", c)
	c = full()
	c.Inhibits[0].Equal = many(100000, itselfOf[string])
	refused(t, "very many names", c)
	c = full()
	c.Route.Wait = math.MinInt
	refused(t, "a least number", c)
}

// P10.1: the document's example, and the order of each list.
func TestNormal(t *testing.T) {
	c := small()
	c.Receivers = []string{"ops", "dev"}
	if n, e := Normal(c); e != api.OK || !slices.Equal(n.Receivers, []string{"dev", "ops"}) {
		t.Errorf("%v, %d", n.Receivers, e)
	}
	n, e := Normal(full())
	if e != api.OK || !slices.Equal(n.Receivers, []string{"all", "dev", "ops", "qa"}) || n.Route.Routes[0].Receiver != "dev" {
		t.Errorf("%s, %d", show(n), e)
	}
	if n.Rules[0].Name != "all" || n.Rules[1].Name != "high" || n.Rules[1].Limit != -5 || n.Rules[2].Name != "low" || len(n.Rules) != 3 {
		t.Errorf("rules: %v", n.Rules)
	}
	if n.Hours[0].Name != "day" || n.Hours[1].Name != "night" || n.Hours[1].To != 360 || n.Hours[2].Name != "week" || len(n.Hours) != 3 {
		t.Errorf("hours: %v", n.Hours)
	}
	want := []api.Inhibit{full().Inhibits[2], full().Inhibits[0], full().Inhibits[1]} // the length of the Source's texts comes first
	if !reflect.DeepEqual(copied(n.Inhibits, copiedInhibit), copied(want, copiedInhibit)) {
		t.Errorf("inhibits: %v", n.Inhibits)
	}
	if match := n.Inhibits[2].Source; match[0].Name != "b" || match[1].Name != "a" { // matchers stay as they stand
		t.Errorf("matchers: %v", match)
	}
}

// P10.1: names are sorted byte by byte, a short one ahead of a longer one.
func TestNormalNames(t *testing.T) {
	want := []string{"0", "00", "9", "_", "_a", "a", "a0", "a_", "aa", "b", "ops", "z"}
	random := rand.New(rand.NewSource(1))
	for range 200 {
		c := small()
		c.Receivers = slices.Clone(want)
		random.Shuffle(len(want), func(i, j int) { c.Receivers[i], c.Receivers[j] = c.Receivers[j], c.Receivers[i] })
		for _, name := range c.Receivers {
			c.Rules = append(c.Rules, rule(name))
			if len(c.Hours) < 8 {
				c.Hours = append(c.Hours, span(name))
			}
		}
		n, e := Normal(c)
		byName := func(a, b api.Hours) int { return strings.Compare(a.Name, b.Name) }
		if e != api.OK || !slices.Equal(n.Receivers, want) || !slices.IsSortedFunc(n.Hours, byName) || len(n.Hours) != 8 {
			t.Fatalf("%v, %v, %d", n.Receivers, n.Hours, e)
		}
		for i, r := range n.Rules {
			if r.Name != want[i] {
				t.Fatalf("%v", n.Rules)
			}
		}
	}
}

// P10.1: inhibits that are the same are there once, wherever they stand; those that are not, stay.
func TestNormalInhibits(t *testing.T) {
	a1, b1 := is("a", "1"), is("b", "1")
	not := api.Matcher{Name: "a", How: api.MNot, Words: []string{"1"}}
	one := api.Matcher{Name: "a", How: api.MOne, Words: []string{"1"}}
	two := api.Matcher{Name: "a", How: api.MOne, Words: []string{"1", "2"}}
	others := []api.Inhibit{ // in the order of their texts
		inhibit(a1, a1), inhibit(a1, b1), inhibit(a1, b1, "a"), inhibit(a1, b1, "b"), inhibit(a1, b1, "a", "b"),
		inhibit(a1, not), inhibit(a1, one),
		inhibit(a1, two), {Source: []api.Matcher{a1}, Target: []api.Matcher{a1, b1}}, {Source: []api.Matcher{a1}, Target: []api.Matcher{b1, a1}},
		inhibit(b1, a1), inhibit(b1, b1), inhibit(not, a1), inhibit(one, a1), inhibit(two, a1),
		{Source: []api.Matcher{a1, a1}, Target: []api.Matcher{b1}}, {Source: []api.Matcher{a1, b1}, Target: []api.Matcher{b1}}, {Source: []api.Matcher{b1, a1}, Target: []api.Matcher{b1}},
	}
	for i, x := range others {
		for j, y := range others {
			for _, l := range [][]api.Inhibit{{x, y}, {y, x, y}, {x, y, x, y}, {y, y, x, x, x, y}, {x, x, x, x, y, y, y, x}} {
				c := small()
				c.Inhibits = l
				n, e := Normal(c)
				want := []api.Inhibit{others[min(i, j)], others[max(i, j)]}
				if i == j {
					want = want[:1]
				}
				if e != api.OK || !reflect.DeepEqual(copied(n.Inhibits, copiedInhibit), copied(want, copiedInhibit)) {
					t.Errorf("%v have the normal form %v, %d", l, n.Inhibits, e)
				}
			}
		}
	}
}

// P10.1, R3: a nil list is as an empty one.
func TestNil(t *testing.T) {
	a, b := small(), small()
	a.Inhibits = []api.Inhibit{inhibit(is("a", "1"), is("b", "1"))}
	b.Rules, b.Hours, b.Route.Match, b.Route.By, b.Route.Mute, b.Route.Routes = []api.Rule{}, []api.Hours{}, []api.Matcher{}, []string{}, []string{}, []api.Route{}
	b.Inhibits = []api.Inhibit{a.Inhibits[0], a.Inhibits[0]}
	b.Inhibits[1].Equal = []string{}
	if !Same(a, b) || !Same(b, a) {
		t.Error("nil lists and empty ones are others")
	}
	n, e := Normal(b)
	if e != api.OK || len(n.Inhibits) != 1 {
		t.Errorf("%v, %d", n, e)
	}
}

// differences are changes, each to a configuration that is another one.
func differences() []func(c *api.Config) {
	return []func(c *api.Config){
		func(c *api.Config) { c.Rules = c.Rules[1:] },
		func(c *api.Config) { c.Rules = append(c.Rules, rule("new")) },
		func(c *api.Config) { c.Rules[0].Name = "lower" },
		func(c *api.Config) { c.Rules[1].Metric = "n" },
		func(c *api.Config) { c.Rules[1].How = api.CFrom },
		func(c *api.Config) { c.Rules[2].Limit = 1 },
		func(c *api.Config) { c.Rules[2].For = 1 },
		func(c *api.Config) { c.Rules[2].Keep = 1 },
		func(c *api.Config) { c.Rules[2].Tries = 2 },
		func(c *api.Config) { c.Rules[1].Labels[1].Value = "b" },
		func(c *api.Config) { c.Rules[1].Labels = nil },
		func(c *api.Config) { c.Rules[0].Name, c.Rules[2].Name, c.Rules[0].Limit = "all", "low", 2 },
		func(c *api.Config) { c.Route.Receiver = "dev" },
		func(c *api.Config) { c.Route.By = nil },
		func(c *api.Config) { c.Route.Wait = 0 },
		func(c *api.Config) { c.Route.Every = 61 },
		func(c *api.Config) { c.Route.Repeat = 60 },
		func(c *api.Config) { c.Route.Every, c.Route.Repeat = 700, 60 },
		func(c *api.Config) { c.Route.Mute = []string{"week"} },
		func(c *api.Config) { c.Route.Routes[0].On = false },
		func(c *api.Config) { c.Route.Routes[0].Match = c.Route.Routes[0].Match[:1] },
		func(c *api.Config) { slices.Reverse(c.Route.Routes[0].Match) },
		func(c *api.Config) { slices.Reverse(c.Route.Routes) }, // routes stay in order
		func(c *api.Config) { c.Route.Routes[0].Routes[0].Mute = []string{"day"} },
		func(c *api.Config) { c.Route.Routes[0].Routes[1].Every = 2 },
		func(c *api.Config) { c.Route.Routes[1].Routes = []api.Route{route("ops")} },
		func(c *api.Config) { c.Receivers = c.Receivers[:3] },
		func(c *api.Config) { c.Receivers[3] = "other" },
		func(c *api.Config) { c.Inhibits = c.Inhibits[:2] },
		func(c *api.Config) { c.Inhibits = append(c.Inhibits, inhibit(is("a", "1"), is("b", "2"))) },
		func(c *api.Config) {
			c.Inhibits[2].Source, c.Inhibits[2].Target = c.Inhibits[2].Target, c.Inhibits[2].Source
		},
		func(c *api.Config) { c.Inhibits[0].Source[0].How = api.MNot },
		func(c *api.Config) { c.Inhibits[0].Source[0].Words = []string{"his"} },
		func(c *api.Config) { c.Inhibits[0].Target[0].Name = "rev" },
		func(c *api.Config) { c.Inhibits[0].Equal = []string{"host"} },
		func(c *api.Config) { slices.Reverse(c.Inhibits[1].Source) }, // matchers stay in order
		func(c *api.Config) { slices.Reverse(c.Inhibits[1].Target) },
		func(c *api.Config) {
			c.Hours = c.Hours[:0:0]
			c.Hours = append(c.Hours, full().Hours[0], full().Hours[2])
		},
		func(c *api.Config) { c.Hours[1].Name = "weeks" },
		func(c *api.Config) { c.Hours[0].Days = 126 },
		func(c *api.Config) { c.Hours[0].From = 1 },
		func(c *api.Config) { c.Hours[0].To = 361 },
	}
}

// P10.1, P10.2: what differs in one thing is not the same, and has another text and mark.
func TestDifferences(t *testing.T) {
	l := []api.Config{full(), small()}
	for _, change := range differences() {
		l = append(l, changed(change))
	}
	for i, a := range l {
		taken(t, strconv.Itoa(i), a)
		text, e := Text(a)
		mark, f := Mark(a)
		if e != api.OK || f != api.OK {
			t.Errorf("%s: %d, %d", show(a), e, f)
		}
		for j, b := range l {
			if got := Same(a, b); got != (i == j) {
				t.Errorf("%d and %d are the same: %v", i, j, got)
			}
			otherText, _ := Text(b)
			otherMark, _ := Mark(b)
			if (text == otherText) != (i == j) || (mark == otherMark) != (i == j) {
				t.Errorf("%d and %d have texts %s and %s, marks %s and %s", i, j, show(text), show(otherText), mark, otherMark)
			}
		}
	}
}
