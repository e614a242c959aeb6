package config

import (
	"crypto/sha256"
	"fmt"
	"math/rand"
	"slices"
	"strconv"
	"strings"
	"testing"

	"transhipment/api"
)

// tooLong is what is panicked, where a text is too long.
const tooLong = "too long"

// trueNumber is a number's bytes, found in another way.
func trueNumber(n int) string {
	var digits []byte
	for {
		digits = append(digits, byte(n&127))
		n >>= 7
		if n == 0 {
			break
		}
	}
	for i := range len(digits) - 1 {
		digits[i] |= 128
	}
	return string(digits)
}

// trueBind is texts, bound.
func trueBind(parts ...string) string {
	var bound strings.Builder
	for _, part := range parts {
		if len(part) > 8192 {
			panic(tooLong)
		}
		bound.WriteString(trueNumber(len(part)) + part)
	}
	return bound.String()
}

// trueMatchers are the texts of matchers, bound.
func trueMatchers(l []api.Matcher) string {
	var texts []string
	for _, m := range l {
		texts = append(texts, m.Name+[]string{"", "=", "!=", "=~", "!~"}[m.How]+`"`+strings.Join(m.Words, "|")+`"`)
	}
	return trueBind(texts...)
}

// trueInhibit is an inhibit's text.
func trueInhibit(x api.Inhibit) string {
	return trueBind(trueMatchers(x.Source), trueMatchers(x.Target), trueBind(x.Equal...))
}

// trueRule are a rule's words.
func trueRule(r api.Rule) []string {
	var labels []string
	for _, l := range r.Labels {
		labels = append(labels, l.Name+`="`+strings.NewReplacer(`\`, `\\`, `"`, `\"`).Replace(l.Value)+`"`)
	}
	sign := []string{"", ">", ">=", "<", "<=", "=="}[r.How]
	return []string{r.Name, r.Metric, sign, strconv.Itoa(r.Limit), strconv.Itoa(r.For), strconv.Itoa(r.Keep), strconv.Itoa(r.Tries), "{" + strings.Join(labels, ",") + "}"}
}

// trueHours is the text of hours.
func trueHours(h api.Hours) string {
	var days []string
	for i, day := range []string{"mon", "tue", "wed", "thu", "fri", "sat", "sun"} {
		if h.Days&(1<<i) != 0 {
			days = append(days, day)
		}
	}
	return fmt.Sprintf("%s %02d:%02d-%02d:%02d", strings.Join(days, ","), h.From/60, h.From%60, h.To/60, h.To%60)
}

// trueRoute is a route's text.
func trueRoute(r api.Route) string {
	var within []string
	for _, inner := range r.Routes {
		within = append(within, trueRoute(inner))
	}
	on := map[bool]string{false: "0", true: "1"}[r.On]
	return trueBind(r.Receiver, trueMatchers(r.Match), trueBind(r.By...), trueBind(r.Mute...), trueNumber(r.Wait), trueNumber(r.Every), trueNumber(r.Repeat), on, trueBind(within...))
}

// trueText is the text of a configuration that may be, found in another way.
func trueText(c api.Config) (text string, e api.Errno) {
	defer func() {
		if recover() != nil {
			text, e = "", api.ErrLong
		}
	}()
	n := trueNormal(c)
	var words, spans, inhibits []string
	for _, r := range n.Rules {
		words = append(words, trueRule(r)...)
	}
	for _, h := range n.Hours {
		spans = append(spans, h.Name, trueHours(h))
	}
	for _, x := range n.Inhibits {
		inhibits = append(inhibits, trueInhibit(x))
	}
	return trueBind(trueBind(words...), trueBind(n.Receivers...), trueBind(spans...), trueBind(inhibits...), trueRoute(n.Route)), api.OK
}

// trueMark is the mark of a text.
func trueMark(text string) string {
	sum := sha256.Sum256([]byte(text))
	return fmt.Sprintf("%x", sum[:8])
}

// told fails, if a configuration has another text, or another mark, than it should.
func told(t *testing.T, c api.Config) {
	t.Helper()
	want, wantErr := trueText(c)
	if text, e := Text(c); text != want || e != wantErr {
		t.Errorf("%s has the text %s, %d, not %s, %d", show(c), show(text), e, show(want), wantErr)
	}
	wantMark := ""
	if wantErr == api.OK {
		wantMark = trueMark(want)
	}
	if mark, e := Mark(c); mark != wantMark || e != wantErr {
		t.Errorf("%s has the mark %q, %d, not %q, %d", show(c), mark, e, wantMark, wantErr)
	}
}

// short is texts, bound, all of which have less than 128 bytes.
func short(parts ...string) string {
	bound := ""
	for _, part := range parts {
		bound += string([]byte{byte(len(part))}) + part
	}
	return bound
}

// P10.2: texts, as the document tells them.
func TestText(t *testing.T) {
	plain := "\x03ops" + "\x00" + "\x00" + "\x00" + "\x01\x00" + "\x01\x01" + "\x01\x01" + "\x010" + "\x00"
	c := small()
	if text, e := Text(c); text != "\x00"+"\x04\x03ops"+"\x00"+"\x00"+"\x10"+plain || e != api.OK {
		t.Errorf("%q, %d", text, e)
	}
	told(t, c)
	c.Receivers = []string{"ops", "b"}
	c.Rules = []api.Rule{rule("z"), {Name: "k", Metric: "mm", How: api.CTo, Limit: -10, For: 1, Keep: 2, Tries: 10, Labels: []api.Label{{Name: "a", Value: `"`}}}}
	c.Hours = []api.Hours{{Name: "w", Days: 3, From: 61, To: 1440}, {Name: "n", Days: 64, To: 1}}
	c.Inhibits = []api.Inhibit{inhibit(is("b", "1"), is("a", ""), "q"), inhibit(is("a", "1"), is("a", "2"))}
	c.Route.By, c.Route.Mute, c.Route.Wait, c.Route.Every, c.Route.Repeat = []string{"x", "yy"}, []string{"n"}, 127, 128, 300
	within := route("b", route("ops"))
	within.On, within.Match = true, []api.Matcher{is("b", "1"), {Name: "a", How: api.MNone, Words: []string{"1", "2"}}}
	c.Route.Routes = []api.Route{within, route("ops")}
	inner := short("b", short(`b="1"`, `a!~"1|2"`), "", "", "\x00", "\x01", "\x01", "1", short(plain))
	want := short(
		short("k", "mm", "<=", "-10", "1", "2", "10", `{a="\""}`, "z", "m", ">", "0", "0", "0", "1", "{}"),
		short("b", "ops"),
		short("n", "sun 00:00-00:01", "w", "mon,tue 01:01-24:00"),
		short(short(short(`a="1"`), short(`a="2"`), ""), short(short(`b="1"`), short(`a=""`), short("q"))),
		short("ops", "", short("x", "yy"), short("n"), "\x7f", "\x80\x01", "\xac\x02", "0", short(inner, plain)),
	)
	if text, e := Text(c); text != want || e != api.OK {
		t.Errorf("%q, %d, not %q", text, e, want)
	}
	if mark, e := Mark(c); mark != trueMark(want) || e != api.OK {
		t.Errorf("mark %s, %d", mark, e)
	}
	told(t, c)
	told(t, full())
}

// P10.2: each thing of a configuration, changed, in its text.
func TestTextDifferences(t *testing.T) {
	for _, change := range differences() {
		told(t, changed(change))
	}
}

// grown is a configuration whose rules' words, bound, have so many bytes, at least some 8000 and at most 8900.
func grown(size int) api.Config {
	c := small()
	c.Rules = many(16, rule)
	for i := range c.Rules {
		for _, name := range letters(4) {
			c.Rules[i].Labels = append(c.Rules[i].Labels, api.Label{Name: name + strings.Repeat("m", 50), Value: long(64)})
		}
	}
	size -= len(trueBind(allWords(c)...))
	for i := range c.Rules {
		more := max(min(size, 60), 0)
		c.Rules[i].Metric += long(more)
		size -= more
	}
	return c
}

// allWords are the words of a configuration's rules, in the normal form.
func allWords(c api.Config) []string {
	var l []string
	for _, r := range trueNormal(c).Rules {
		l = append(l, trueRule(r)...)
	}
	return l
}

// matchers are so many of the longest ones.
func matchers(how int) []api.Matcher {
	m := api.Matcher{Name: long(64), How: api.MNone}
	for _, letter := range letters(8) {
		m.Words = append(m.Words, letter+long(63))
	}
	var l []api.Matcher
	for range how {
		l = append(l, m)
	}
	return l
}

// cut are matchers whose texts, bound, have so many bytes less, at the most some 400.
func cut(l []api.Matcher, less int) []api.Matcher {
	l = copied(l, copiedMatcher)
	for i := range l[0].Words {
		out := min(less, 50)
		l[0].Words[i] = l[0].Words[i][:64-out]
		less -= out
	}
	return l
}

// P10.2: the rules' words, the inhibits' texts and the route's text have at most 8192 bytes.
func TestTextLong(t *testing.T) {
	for size := 8180; size <= 8200; size++ {
		c := grown(size)
		if got := len(trueBind(allWords(c)...)); got != size {
			t.Fatalf("%d bytes of rules, not %d", got, size)
		}
		edge(t, "rules", c, size)
		c = small()
		c.Inhibits = []api.Inhibit{{Source: matchers(8), Target: matchers(4), Equal: letters(8)}, {Source: matchers(1), Target: matchers(1)}}
		inhibits := func() int { return len(trueBind(trueInhibit(c.Inhibits[0]), trueInhibit(c.Inhibits[1]))) }
		c.Inhibits[0].Source = cut(c.Inhibits[0].Source, inhibits()-size)
		if inhibits() != size {
			t.Fatalf("%d bytes of inhibits, not %d", inhibits(), size)
		}
		edge(t, "inhibits", c, size)
		c = small()
		c.Route.Routes = []api.Route{route("ops"), route("ops")}
		c.Route.Routes[0].Match, c.Route.Routes[1].Match = cut(matchers(8), 400), matchers(6)
		c.Route.Routes[0].Match = cut(matchers(8), 400+len(trueRoute(c.Route))-size)
		if got := len(trueRoute(c.Route)); got != size {
			t.Fatalf("%d bytes of a route, not %d", got, size)
		}
		edge(t, "route", c, size)
	}
}

// edge fails, if a configuration of a part of so many bytes has no text, though it should, or has one, though it should not.
func edge(t *testing.T, what string, c api.Config, size int) {
	t.Helper()
	taken(t, what, c)
	told(t, c)
	if text, e := Text(c); (e == api.OK) != (size <= 8192) || (text == "") != (size > 8192) {
		t.Errorf("%s of %d bytes: %s, %d", what, size, show(text), e)
	}
	n, _ := Normal(c)
	told(t, n)
}

// P10.2: what is too long within what is bound is told, too, wherever it stands.
func TestTextLongWithin(t *testing.T) {
	c := small()
	c.Inhibits = []api.Inhibit{{Source: matchers(8), Target: matchers(8), Equal: letters(8)}} // alone too long
	edge(t, "an inhibit", c, 9000)
	c.Inhibits = append(c.Inhibits, inhibit(is("a", "1"), is("b", "1")), inhibit(matchers(1)[0], matchers(1)[0], long(64)))
	edge(t, "inhibits", c, 9000)
	for range 200 { // in any order they have one normal form, though no text
		other := c
		other.Inhibits = slices.Clone(c.Inhibits)
		rand.Shuffle(3, func(i, j int) { other.Inhibits[i], other.Inhibits[j] = other.Inhibits[j], other.Inhibits[i] })
		if !Same(c, other) {
			t.Fatalf("%s and %s are not the same", show(c), show(other))
		}
	}
	wide := func(how int) []api.Route {
		return many(how, func(string) api.Route {
			r := route("ops")
			r.Match = matchers(8)
			return r
		})
	}
	for deep := range 3 { // how deep the too long one stands
		for place := range 3 {
			c = small()
			r := route("ops", wide(2)...)
			for range deep {
				within := many(3, func(string) api.Route { return route("ops") })
				within[place] = r
				r = route("ops", within...)
			}
			c.Route = r
			edge(t, "a route", c, 9000)
		}
	}
	c = grown(8900)
	c.Receivers = many(16, func(word string) string { return word + long(60) })
	c.Route.Receiver = c.Receivers[3]
	edge(t, "rules", c, 8900)
	c.Rules = nil
	c.Hours = many(8, func(word string) api.Hours { return api.Hours{Name: word + long(60), Days: 127, To: 1440} })
	edge(t, "receivers and hours", c, 0) // as long as they can be, they have a text
}

// randomWord is one of few words.
func randomWord(r *rand.Rand) string {
	return []string{"a", "b", "c", "aa", "ab", "_", "0", "ops", "x9", "night"}[r.Intn(10)]
}

// randomWords are some of few words, each greater than the one ahead of it.
func randomWords(r *rand.Rand, how int) []string {
	var l []string
	for range r.Intn(how + 1) {
		l = append(l, []string{"a", "b", "c", "aa", "ab"}[r.Intn(5)])
	}
	slices.Sort(l)
	return slices.Compact(l)
}

// randomMatch are one matcher, or more.
func randomMatch(r *rand.Rand) []api.Matcher {
	var l []api.Matcher
	for range 1 + r.Intn(2) {
		m := is([]string{"a", "b"}[r.Intn(2)], []string{"", "1", "2"}[r.Intn(3)])
		m.How = 1 + r.Intn(4)
		if m.How >= api.MOne && r.Intn(2) == 0 {
			m.Words = append(m.Words, "3")
		}
		l = append(l, m)
	}
	return l
}

// pick is one of some words, and sometimes another one.
func pick(r *rand.Rand, words []string) string {
	if len(words) == 0 || r.Intn(50) == 0 {
		return randomWord(r)
	}
	return words[r.Intn(len(words))]
}

// randomRoute is one that names of some receivers and hours, and sometimes of others.
func randomRoute(r *rand.Rand, receivers, spans []string, deep int) api.Route {
	one := route(pick(r, receivers))
	one.By, one.Wait, one.Every = randomWords(r, 3), r.Intn(300), 1+r.Intn(300)
	if len(spans) > 0 && r.Intn(2) == 0 {
		one.Mute = []string{pick(r, spans)}
	}
	for range r.Intn(4) * min(deep, 1) {
		inner := randomRoute(r, receivers, spans, deep-1)
		inner.Match, inner.On = randomMatch(r), r.Intn(2) == 0
		one.Routes = append(one.Routes, inner)
	}
	return one
}

// randomConfig is one that most often may be.
func randomConfig(r *rand.Rand) api.Config {
	var c api.Config
	words := func(how int) []string {
		var l []string
		for range r.Intn(how) {
			if word := randomWord(r); !slices.Contains(l, word) || r.Intn(100) == 0 {
				l = append(l, word)
			}
		}
		return l
	}
	for _, name := range words(5) {
		one := rule(name)
		one.How, one.Limit, one.Metric = 1+r.Intn(5), r.Intn(3)-1, randomWord(r)
		c.Rules = append(c.Rules, one)
	}
	var spans []string
	for _, name := range words(5) {
		c.Hours = append(c.Hours, api.Hours{Name: name, Days: 1 + r.Intn(127), From: r.Intn(720), To: 720 + r.Intn(721)})
		spans = append(spans, name)
	}
	for range r.Intn(5) {
		c.Inhibits = append(c.Inhibits, api.Inhibit{Source: randomMatch(r), Target: randomMatch(r), Equal: randomWords(r, 2)})
	}
	if len(c.Inhibits) > 1 && r.Intn(2) == 0 {
		c.Inhibits = append(c.Inhibits, c.Inhibits[0])
	}
	c.Receivers = append(words(6), "dev")
	c.Route = randomRoute(r, c.Receivers, spans, r.Intn(4))
	if r.Intn(100) == 0 {
		c.Route.On = true
	}
	return c
}

// trueCount is how many routes one is.
func trueCount(r api.Route) int {
	many := 1
	for _, inner := range r.Routes {
		many += trueCount(inner)
	}
	return many
}

// known tells whether all receivers and hours that a route names are there.
func known(c api.Config, r api.Route) bool {
	all := slices.Contains(c.Receivers, r.Receiver)
	for _, word := range r.Mute {
		all = all && slices.ContainsFunc(c.Hours, func(h api.Hours) bool { return h.Name == word })
	}
	for _, inner := range r.Routes {
		all = all && known(c, inner)
	}
	return all
}

// trueRight tells whether a random configuration may be.
func trueRight(c api.Config) bool {
	times := map[string]int{}
	for _, r := range c.Rules {
		times["rule "+r.Name]++
	}
	for _, word := range c.Receivers {
		times["receiver "+word]++
	}
	for _, h := range c.Hours {
		times["hours "+h.Name]++
	}
	for _, many := range times {
		if many > 1 {
			return false
		}
	}
	return !c.Route.On && trueCount(c.Route) <= 32 && known(c, c.Route)
}

// shuffled is a configuration in another order, with some inhibits there more than once.
func shuffled(r *rand.Rand, c api.Config) api.Config {
	c = copiedConfig(c)
	r.Shuffle(len(c.Rules), func(i, j int) { c.Rules[i], c.Rules[j] = c.Rules[j], c.Rules[i] })
	r.Shuffle(len(c.Receivers), func(i, j int) { c.Receivers[i], c.Receivers[j] = c.Receivers[j], c.Receivers[i] })
	r.Shuffle(len(c.Hours), func(i, j int) { c.Hours[i], c.Hours[j] = c.Hours[j], c.Hours[i] })
	for range r.Intn(3) * min(len(c.Inhibits), 1) {
		c.Inhibits = append(c.Inhibits, c.Inhibits[r.Intn(len(c.Inhibits))])
	}
	r.Shuffle(len(c.Inhibits), func(i, j int) { c.Inhibits[i], c.Inhibits[j] = c.Inhibits[j], c.Inhibits[i] })
	return c
}

// P10.3, P10.1, P10.2, R4: random configurations: the normal form of the normal form is it, another order has the same one, and nothing is changed.
func TestRandom(t *testing.T) {
	random := rand.New(rand.NewSource(1))
	right, wrong := 0, 0
	for range 6000 {
		c := randomConfig(random)
		before := copiedConfig(c)
		asked(t, "random", c, trueRight(c))
		if !trueRight(c) {
			wrong++
			continue
		}
		right++
		told(t, c)
		n, _ := Normal(c)
		again, e := Normal(n)
		if e != api.OK || !same(n, again) || !Same(n, c) || !Same(c, n) {
			t.Fatalf("%s has the normal form %s, and that %s, %d", show(c), show(n), show(again), e)
		}
		other := shuffled(random, c)
		m, e := Normal(other)
		if e != api.OK || !same(n, m) || !Same(c, other) || !Same(other, c) {
			t.Fatalf("%s and %s have the normal forms %s and %s, %d", show(c), show(other), show(n), show(m), e)
		}
		text, _ := Text(c)
		if otherText, e := Text(other); e != api.OK || otherText != text {
			t.Fatalf("%s and %s have the texts %q and %q, %d", show(c), show(other), text, otherText, e)
		}
		if !same(c, before) {
			t.Fatalf("%s was changed to %s", show(before), show(c))
		}
	}
	if right < 3000 || wrong < 300 {
		t.Errorf("%d may be, %d may not be", right, wrong)
	}
}

// tiny is a random configuration of few things, so that others are often like it.
func tiny(r *rand.Rand) api.Config {
	c := small()
	for _, name := range letters(r.Intn(3)) {
		one := rule(name)
		one.Limit = r.Intn(2)
		c.Rules = append(c.Rules, one)
	}
	for range r.Intn(3) {
		c.Inhibits = append(c.Inhibits, inhibit(is("a", strconv.Itoa(r.Intn(2))), is("b", "1"), letters(r.Intn(2))...))
	}
	c.Receivers = append(c.Receivers, letters(r.Intn(2))...)
	for _, name := range letters(r.Intn(2)) {
		c.Hours = append(c.Hours, span(name))
	}
	return shuffled(r, c)
}

// P10.3: configurations of one text have one normal form, those that are not the same have other texts and marks.
func TestOneText(t *testing.T) {
	random := rand.New(rand.NewSource(2))
	times := map[bool]int{}
	for range 20000 {
		a, b := tiny(random), tiny(random)
		want := same(trueNormal(a), trueNormal(b))
		textA, _ := Text(a)
		textB, _ := Text(b)
		markA, _ := Mark(a)
		markB, _ := Mark(b)
		n, _ := Normal(a)
		m, _ := Normal(b)
		if Same(a, b) != want || (textA == textB) != want || (markA == markB) != want || same(n, m) != want {
			t.Fatalf("%s and %s are the same: %v, texts %q and %q, marks %s and %s", show(a), show(b), want, textA, textB, markA, markB)
		}
		times[want]++
	}
	if times[true] < 100 || times[false] < 200 {
		t.Errorf("the same or not: %v", times)
	}
}
