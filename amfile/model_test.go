package amfile

import (
	"fmt"
	"math/rand"
	"regexp"
	"slices"
	"strings"
	"testing"

	"transhipment/api"
)

const (
	wordBytes = "abcdefghijklmnopqrstuvwxyz0123456789_"
	nameBytes = "ABCDEFGHIJKLMNOPQRSTUVWXYZabcdefghijklmnopqrstuvwxyz_0123456789"
	notFirst  = "0123456789"
	textBytes = nameBytes + "-./:"
	most      = 1099511627776 // of ticks
)

var plain = regexp.MustCompile(`^[A-Za-z0-9_./:][A-Za-z0-9_./:-]*\z`)

// route is a route that may be, and has no more than it must have, beside routes within it.
func route(receiver string, within ...api.Route) api.Route {
	return api.Route{Receiver: receiver, Every: 1, Repeat: 1, Routes: within}
}

// is is a matcher that holds of the sets in which a name has just that value.
func is(name, value string) api.Matcher {
	return api.Matcher{Name: name, How: api.MIs, Words: []string{value}}
}

// inhibit is one of a matcher each.
func inhibit(source, target api.Matcher, equal ...string) api.Inhibit {
	return api.Inhibit{Source: []api.Matcher{source}, Target: []api.Matcher{target}, Equal: equal}
}

// span is hours that may be.
func span(name string) api.Hours { return api.Hours{Name: name, Days: 127, To: 60} }

// small is a configuration that can be said so, and has no more than it must have.
func small() api.Config {
	return api.Config{Route: route("ops"), Receivers: []string{"ops"}}
}

// full is a configuration of which no part is as in one that has nothing, and no list in order.
func full() api.Config {
	inner := route("qa")
	inner.Match, inner.Mute, inner.On = []api.Matcher{{Name: "c", How: api.MNone, Words: []string{"", "x:y"}}}, []string{"day", "night"}, true
	within := route("dev", inner, route("ops"))
	within.Match, within.By, within.Wait, within.On = []api.Matcher{is("b", "2"), {Name: "A", How: api.MNot, Words: []string{""}}}, []string{"job", "sev"}, 5, true
	top := route("ops", within, route("dev"))
	top.By, top.Wait, top.Every, top.Repeat, top.Mute = []string{"alert"}, 30, 60, 700, []string{"night"}
	return api.Config{
		Route:     top,
		Receivers: []string{"qa", "ops", "dev", "all"},
		Inhibits: []api.Inhibit{
			inhibit(is("sev", "hi"), is("sev", "lo"), "host", "job"),
			{Source: []api.Matcher{is("y", "2"), is("x", "1")}, Target: []api.Matcher{{Name: "z", How: api.MOne, Words: []string{"1", "2"}}, is("c", "3")}},
			inhibit(is("v", "2"), is("u", "1")),
		},
		Hours: []api.Hours{{Name: "night", Days: 127, To: 360}, {Name: "week", Days: 31, From: 540, To: 1050}, {Name: "day", Days: 96, From: 1, To: 1440}},
	}
}

// with is the full configuration, with a change.
func with(change func(c *api.Config)) api.Config {
	c := full()
	change(&c)
	return c
}

// inner is the route within one within the top one of the full configuration.
func inner(c *api.Config) *api.Route { return &c.Route.Routes[0].Routes[0] }

// long is a text of that many bytes.
func long(many int) string { return strings.Repeat("n", many) }

// many are so many things, each of which is made of another word.
func many[T any](how int, one func(word string) T) []T {
	var l []T
	for i := range how {
		l = append(l, one(fmt.Sprintf("w%02d", i)))
	}
	return l
}

// sized is a matcher whose text has so many bytes, 12 to 264.
func sized(bytes int) api.Matcher {
	m := api.Matcher{Name: "a", How: api.MOne, Words: []string{"0", "1", "2", "3"}}
	for i := range m.Words {
		m.Words[i] += long(min(63, bytes-len(trueMatcher(m))))
	}
	return m
}

func sameMatcher(a, b api.Matcher) bool {
	return a.Name == b.Name && a.How == b.How && slices.Equal(a.Words, b.Words)
}

func sameRoute(a, b api.Route) bool {
	return a.Receiver == b.Receiver && slices.EqualFunc(a.Match, b.Match, sameMatcher) && slices.Equal(a.By, b.By) &&
		a.Wait == b.Wait && a.Every == b.Every && a.Repeat == b.Repeat && slices.Equal(a.Mute, b.Mute) && a.On == b.On &&
		slices.EqualFunc(a.Routes, b.Routes, sameRoute)
}

func sameInhibit(a, b api.Inhibit) bool {
	return slices.EqualFunc(a.Source, b.Source, sameMatcher) && slices.EqualFunc(a.Target, b.Target, sameMatcher) && slices.Equal(a.Equal, b.Equal)
}

// same holds configurations against each other, as they stand, by all but their rules.
func same(a, b api.Config) bool {
	return sameRoute(a.Route, b.Route) && slices.Equal(a.Receivers, b.Receivers) &&
		slices.EqualFunc(a.Inhibits, b.Inhibits, sameInhibit) && slices.Equal(a.Hours, b.Hours)
}

// trueBind is texts, bound, of which none has more than 16383 bytes.
func trueBind(parts ...string) string {
	s := ""
	for _, part := range parts {
		if n := len(part); n < 128 {
			s += string([]byte{byte(n)})
		} else {
			s += string([]byte{byte(n%128 + 128), byte(n / 128)})
		}
		s += part
	}
	return s
}

// trueMatcher is the text of a matcher.
func trueMatcher(m api.Matcher) string {
	signs := map[int]string{api.MIs: "=", api.MNot: "!=", api.MOne: "=~", api.MNone: "!~"}
	return m.Name + signs[m.How] + `"` + strings.Join(m.Words, "|") + `"`
}

// trueMatchers are the texts of matchers.
func trueMatchers(l []api.Matcher) []string {
	var texts []string
	for _, m := range l {
		texts = append(texts, trueMatcher(m))
	}
	return texts
}

// trueInhibit is what inhibits are sorted by.
func trueInhibit(x api.Inhibit) string {
	return trueBind(trueBind(trueMatchers(x.Source)...), trueBind(trueMatchers(x.Target)...), trueBind(x.Equal...))
}

// put is a list with a thing in its place, ahead of the first one that is greater, unless it is there and wanted just once.
func put[T any](l []T, x T, once bool, by func(T) string) []T {
	at := 0
	for at < len(l) && by(l[at]) < by(x) {
		at++
	}
	if once && at < len(l) && by(l[at]) == by(x) {
		return l
	}
	return slices.Insert(l, at, x)
}

// trueNormal is the normal form without rules, found in another way.
func trueNormal(c api.Config) api.Config {
	n := api.Config{Route: c.Route}
	for _, word := range c.Receivers {
		n.Receivers = put(n.Receivers, word, false, func(word string) string { return word })
	}
	for _, x := range c.Inhibits {
		n.Inhibits = put(n.Inhibits, x, true, trueInhibit)
	}
	for _, h := range c.Hours {
		n.Hours = put(n.Hours, h, false, func(h api.Hours) string { return h.Name })
	}
	return n
}

// trueWord is how a word is written.
func trueWord(s string) string {
	if plain.MatchString(s) {
		return s
	}
	return `"` + strings.NewReplacer(`\`, `\\`, `"`, `\"`).Replace(s) + `"`
}

// trueRow is an entry that is a row of words.
func trueRow(in, name string, words []string) string {
	if len(words) == 0 {
		return in + name + ": []\n"
	}
	s := in + name + ":\n"
	for _, word := range words {
		s += in + "  - " + trueWord(word) + "\n"
	}
	return s
}

// trueMaps is an entry that is a row of maps, which are written behind some blanks.
func trueMaps[T any](in, name string, l []T, write func(in string, x T) string) string {
	if len(l) == 0 {
		return in + name + ": []\n"
	}
	s := in + name + ":\n"
	for _, x := range l {
		s += in + "  -\n" + write(in+"    ", x)
	}
	return s
}

func trueRoute(in string, r api.Route) string {
	return in + "receiver: " + trueWord(r.Receiver) + "\n" +
		trueRow(in, "matchers", trueMatchers(r.Match)) +
		trueRow(in, "group_by", r.By) +
		fmt.Sprintf("%sgroup_wait: %d\n%sgroup_interval: %d\n%srepeat_interval: %d\n", in, r.Wait, in, r.Every, in, r.Repeat) +
		trueRow(in, "mute", r.Mute) +
		fmt.Sprintf("%scontinue: %v\n", in, r.On) +
		trueMaps(in, "routes", r.Routes, trueRoute)
}

func trueHours(in string, h api.Hours) string {
	var days []string
	for i, day := range []string{"mon", "tue", "wed", "thu", "fri", "sat", "sun"} {
		if h.Days>>i&1 == 1 {
			days = append(days, day)
		}
	}
	return fmt.Sprintf("%sname: %s\n%sspan: \"%s %02d:%02d-%02d:%02d\"\n", in, trueWord(h.Name), in, strings.Join(days, ","), h.From/60, h.From%60, h.To/60, h.To%60)
}

// trueText is the text of a configuration, as it stands, written in another way.
func trueText(c api.Config) string {
	return "route:\n" + trueRoute("  ", c.Route) +
		trueRow("", "receivers", c.Receivers) +
		trueMaps("", "inhibit_rules", c.Inhibits, func(in string, x api.Inhibit) string {
			return trueRow(in, "source", trueMatchers(x.Source)) + trueRow(in, "target", trueMatchers(x.Target)) + trueRow(in, "equal", x.Equal)
		}) +
		trueMaps("", "time_intervals", c.Hours, trueHours)
}

// ofBytes is a configuration whose text has so many bytes.
func ofBytes(t *testing.T, bytes int) api.Config {
	c := full()
	c.Inhibits = many(8, func(word string) api.Inhibit {
		return api.Inhibit{Source: many(8, func(string) api.Matcher { return is(long(60), "v") }), Target: []api.Matcher{is(word, "v")}}
	})
	left := bytes - len(trueText(c))
	for i := range 64 {
		more := min(63, max(0, left))
		c.Inhibits[i/8].Source[i%8].Words[0] += strings.Repeat("v", more)
		left -= more
	}
	if got := len(trueText(c)); got != bytes {
		t.Fatalf("%d bytes, not %d", got, bytes)
	}
	return c
}

// shuffled is a configuration in another order, with some inhibits there more than once.
func shuffled(r *rand.Rand, c api.Config) api.Config {
	c.Receivers, c.Inhibits, c.Hours = slices.Clone(c.Receivers), slices.Clone(c.Inhibits), slices.Clone(c.Hours)
	for range r.Intn(3) * min(len(c.Inhibits), 1) {
		if len(c.Inhibits) < 8 {
			c.Inhibits = append(c.Inhibits, c.Inhibits[r.Intn(len(c.Inhibits))])
		}
	}
	r.Shuffle(len(c.Receivers), func(i, j int) { c.Receivers[i], c.Receivers[j] = c.Receivers[j], c.Receivers[i] })
	r.Shuffle(len(c.Inhibits), func(i, j int) { c.Inhibits[i], c.Inhibits[j] = c.Inhibits[j], c.Inhibits[i] })
	r.Shuffle(len(c.Hours), func(i, j int) { c.Hours[i], c.Hours[j] = c.Hours[j], c.Hours[i] })
	return c
}

// randomWord is a word of chapter 6.
func randomWord(r *rand.Rand) string {
	word := make([]byte, 1+r.Intn(3))
	if r.Intn(30) == 0 {
		word = make([]byte, 60+r.Intn(5))
	}
	for i := range word {
		word[i] = wordBytes[r.Intn(len(wordBytes))]
	}
	return string(word)
}

// rising are some words of a kind, each greater than the one ahead of it.
func rising(r *rand.Rand, how int, word func() string) []string {
	var l []string
	for range r.Intn(how + 1) {
		l = append(l, word())
	}
	slices.Sort(l)
	return slices.Compact(l)
}

// some are some of those words that rise.
func some(r *rand.Rand, words []string) []string {
	if len(words) == 0 {
		return nil
	}
	return rising(r, 3, func() string { return words[r.Intn(len(words))] })
}

func randomName(r *rand.Rand) string {
	return []string{"A", "Job", "_", "a", "alert", "b2", "job", "sev"}[r.Intn(8)]
}

// randomMatchers are so many matchers, or up to two more, of short words.
func randomMatchers(r *rand.Rand, least int) []api.Matcher {
	var l []api.Matcher
	for range least + r.Intn(3) {
		m := api.Matcher{Name: randomName(r), How: 1 + r.Intn(4)}
		word := func() string {
			text := make([]byte, r.Intn(4))
			for i := range text {
				text[i] = textBytes[r.Intn(len(textBytes))]
			}
			return string(text)
		}
		m.Words = []string{word()}
		if m.How >= api.MOne {
			m.Words = rising(r, 8, word)
		}
		if len(m.Words) == 0 {
			m.Words = []string{""}
		}
		l = append(l, m)
	}
	return l
}

// randomNumber is one of 1 to 2^40, of any number of digits.
func randomNumber(r *rand.Rand) int {
	if r.Intn(10) == 0 {
		return []int{1, 9, 10, most - 1, most}[r.Intn(5)]
	}
	return 1 + int(r.Int63n(most)>>r.Intn(41))
}

// randomRoute is a route, so deep at the most, that names of some receivers and hours.
func randomRoute(r *rand.Rand, receivers, mutes []string, deep int) api.Route {
	one := api.Route{Receiver: receivers[r.Intn(len(receivers))], Wait: randomNumber(r) - 1, Every: randomNumber(r), Repeat: randomNumber(r), Mute: some(r, mutes)}
	one.By = rising(r, 3, func() string { return randomName(r) })
	for range r.Intn(4) * min(deep-1, 1) {
		inner := randomRoute(r, receivers, mutes, deep-1)
		inner.Match, inner.On = randomMatchers(r, 0), r.Intn(2) == 0
		one.Routes = append(one.Routes, inner)
	}
	return one
}

// randomConfig is a configuration that can be said so, in any order.
func randomConfig(r *rand.Rand) api.Config {
	word := func() string { return randomWord(r) }
	c := api.Config{Receivers: append(rising(r, 5, word), "the_last")}
	mutes := rising(r, 4, word)
	for _, name := range mutes {
		from := r.Intn(1440)
		c.Hours = append(c.Hours, api.Hours{Name: name, Days: 1 + r.Intn(127), From: from, To: from + 1 + r.Intn(1440-from)})
	}
	for range r.Intn(4) {
		c.Inhibits = append(c.Inhibits, api.Inhibit{Source: randomMatchers(r, 1), Target: randomMatchers(r, 1), Equal: rising(r, 2, func() string { return randomName(r) })})
	}
	c.Route = randomRoute(r, c.Receivers, mutes, 1+r.Intn(3))
	return shuffled(r, c)
}
