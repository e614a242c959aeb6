package nagfile

import (
	"fmt"
	"math/rand"
	"regexp"
	"slices"
	"strconv"
	"strings"
	"testing"

	"transhipment/api"
	"transhipment/block"
)

const (
	wordBytes = "abcdefghijklmnopqrstuvwxyz0123456789_"
	nameBytes = "ABCDEFGHIJKLMNOPQRSTUVWXYZabcdefghijklmnopqrstuvwxyz_0123456789"
	notFirst  = "0123456789"
	most      = 1099511627776 // of ticks and of values
)

var (
	aTimeperiod = regexp.MustCompile(`^timeperiod\nname\t([a-z0-9_]{1,64})\nspan\t([a-z,]+) (\d\d):([0-5]\d)-(\d\d):([0-5]\d)\n\z`)
	aContact    = regexp.MustCompile(`^contact\nname\t([a-z0-9_]{1,64})\n\z`)
	aNotify     = regexp.MustCompile(`^notify\ncontact\t([a-z0-9_]{1,64})\nwait\t(0|[1-9]\d{0,12})\nevery\t([1-9]\d{0,12})\nrepeat\t([1-9]\d{0,12})\n((?:.*\n)*)\z`)
	aService    = regexp.MustCompile(`^service\nname\t([a-z0-9_]{1,64})\nmetric\t([a-z0-9_]{1,64})\ncheck\t(.*)\nlimit\t(0|-?[1-9]\d{0,12})\nattempts\t([1-9]|10)\n((?:.*\n)*)\z`)
	aPeriod     = regexp.MustCompile(`^period_(.+)\t([a-z0-9_]{1,64})\z`)
	aLabel      = regexp.MustCompile(`^label_(.+)\t([A-Za-z_][A-Za-z0-9_]{0,63})=([ -~]{1,64})\z`)
	inPlace     = regexp.MustCompile(`^t*c*(ns*)?\z`)
)

// rule is a rule that can be said so, and has no more than it must have.
func rule(name string) api.Rule {
	return api.Rule{Name: name, Metric: "m", How: api.CAbove, Tries: 1}
}

// route is a route that can be said so, and has no more than it must have.
func route(receiver string) api.Route {
	return api.Route{Receiver: receiver, Every: 1, Repeat: 1}
}

// span is hours that may be.
func span(name string) api.Hours { return api.Hours{Name: name, Days: 127, To: 60} }

// pairs are labels of names and values by turns.
func pairs(said ...string) []api.Label {
	var l []api.Label
	for i := 0; i < len(said); i += 2 {
		l = append(l, api.Label{Name: said[i], Value: said[i+1]})
	}
	return l
}

// inhibit is one that may be.
func inhibit() api.Inhibit {
	m := []api.Matcher{{Name: "a", How: api.MIs, Words: []string{"1"}}}
	return api.Inhibit{Source: m, Target: m}
}

// small is a configuration that can be said so, and has no more than it must have.
func small() api.Config {
	return api.Config{Route: route("ops"), Receivers: []string{"ops"}}
}

// full is a configuration that can be said so, of which no part is as in one that has nothing, and no list in order.
func full() api.Config {
	high := api.Rule{Name: "high", Metric: "cpu_1", How: api.CTo, Limit: -3, Tries: 4, Labels: pairs("Sev", " very=hi", "t", "5")}
	top := api.Route{Receiver: "ops", Wait: 30, Every: 61, Repeat: 700, Mute: []string{"day", "night"}}
	return api.Config{
		Rules:     []api.Rule{rule("low"), high, rule("all")},
		Route:     top,
		Receivers: []string{"qa", "ops", "dev"},
		Hours:     []api.Hours{{Name: "night", Days: 127, To: 360}, {Name: "week", Days: 31, From: 540, To: 1050}, {Name: "day", Days: 96, From: 1, To: 1440}},
	}
}

// with is the full configuration, with a change.
func with(change func(c *api.Config)) api.Config {
	c := full()
	change(&c)
	return c
}

// show is a configuration as a text, of which no more than its beginning stands.
func show(c api.Config) string { return fmt.Sprintf("%.2000s", fmt.Sprint(c)) }

// long is a text of that many bytes.
func long(many int) string { return strings.Repeat("n", many) }

// many are so many things, each of which is made of another word.
func many[T any](how int, one func(word string) T) []T {
	var l []T
	for i := range how {
		l = append(l, one(fmt.Sprintf("w%02d", i)))
	}
	return l
}

func sameRule(a, b api.Rule) bool {
	return a.Name == b.Name && a.Metric == b.Metric && a.How == b.How && a.Limit == b.Limit && a.For == b.For && a.Keep == b.Keep && a.Tries == b.Tries && slices.Equal(a.Labels, b.Labels)
}

// same holds configurations that can be said so, or nothing, against each other, as they stand.
func same(a, b api.Config) bool {
	bare := func(c api.Config) bool {
		r := c.Route
		return len(c.Inhibits) == 0 && len(r.Match) == 0 && len(r.By) == 0 && !r.On && len(r.Routes) == 0
	}
	return bare(a) && bare(b) && slices.EqualFunc(a.Rules, b.Rules, sameRule) &&
		a.Route.Receiver == b.Route.Receiver && a.Route.Wait == b.Route.Wait && a.Route.Every == b.Route.Every && a.Route.Repeat == b.Route.Repeat && slices.Equal(a.Route.Mute, b.Route.Mute) &&
		slices.Equal(a.Receivers, b.Receivers) && slices.Equal(a.Hours, b.Hours)
}

// put is a list with a thing in its place, ahead of the first one that is greater.
func put[T any](l []T, x T, by func(T) string) []T {
	at := 0
	for at < len(l) && by(l[at]) < by(x) {
		at++
	}
	return slices.Insert(l, at, x)
}

// trueNormal is the normal form of what can be said so, found in another way.
func trueNormal(c api.Config) api.Config {
	n := api.Config{Route: c.Route}
	for _, r := range c.Rules {
		n.Rules = put(n.Rules, r, func(r api.Rule) string { return r.Name })
	}
	for _, word := range c.Receivers {
		n.Receivers = put(n.Receivers, word, func(word string) string { return word })
	}
	for _, h := range c.Hours {
		n.Hours = put(n.Hours, h, func(h api.Hours) string { return h.Name })
	}
	return n
}

// trueDays are days' names, in order.
func trueDays() []string { return []string{"mon", "tue", "wed", "thu", "fri", "sat", "sun"} }

// trueSpan is the text of hours.
func trueSpan(h api.Hours) string {
	var days []string
	for i, day := range trueDays() {
		if h.Days>>i&1 == 1 {
			days = append(days, day)
		}
	}
	return fmt.Sprintf("%s %02d:%02d-%02d:%02d", strings.Join(days, ","), h.From/60, h.From%60, h.To/60, h.To%60)
}

// trueHours is the block of hours.
func trueHours(h api.Hours) string {
	return fmt.Sprintf("define timeperiod {\n\tname\t%s\n\tspan\t%s\n}\n", h.Name, trueSpan(h))
}

// trueContact is the block of a receiver.
func trueContact(receiver string) string {
	return "define contact {\n\tname\t" + receiver + "\n}\n"
}

// trueNotify is the block of a route.
func trueNotify(r api.Route) string {
	s := fmt.Sprintf("define notify {\n\tcontact\t%s\n\twait\t%d\n\tevery\t%d\n\trepeat\t%d\n", r.Receiver, r.Wait, r.Every, r.Repeat)
	for i, word := range r.Mute {
		s += fmt.Sprintf("\tperiod_%d\t%s\n", i, word)
	}
	return s + "}\n"
}

// trueService is the block of a rule.
func trueService(r api.Rule) string {
	signs := map[int]string{api.CAbove: ">", api.CFrom: ">=", api.CBelow: "<", api.CTo: "<=", api.CIs: "=="}
	s := fmt.Sprintf("define service {\n\tname\t%s\n\tmetric\t%s\n\tcheck\t%s\n\tlimit\t%d\n\tattempts\t%d\n", r.Name, r.Metric, signs[r.How], r.Limit, r.Tries)
	for i, x := range r.Labels {
		s += fmt.Sprintf("\tlabel_%d\t%s=%s\n", i, x.Name, x.Value)
	}
	return s + "}\n"
}

// each is what a function writes of each thing of a list, one behind the other.
func each[T any](l []T, write func(T) string) string {
	s := ""
	for _, x := range l {
		s += write(x)
	}
	return s
}

// trueText is the text of a configuration, as it stands, written in another way.
func trueText(c api.Config) string {
	return each(c.Hours, trueHours) + each(c.Receivers, trueContact) + trueNotify(c.Route) + each(c.Rules, trueService)
}

func toNumber(s string) int {
	n, _ := strconv.Atoi(s)
	return n
}

// days are the bits of days' names, or 0, if these are not days in order.
func days(s string) int {
	bits, last := 0, -1
	for _, day := range strings.Split(s, ",") {
		i := slices.Index(trueDays(), day)
		if i <= last {
			return 0
		}
		bits, last = bits+1<<i, i
	}
	return bits
}

// entries are what is said of each number, from 0 on, by lines of a form.
func entries(s string, form *regexp.Regexp) ([][]string, bool) {
	var l [][]string
	lines := strings.Split(s, "\n")
	for i, line := range lines[:len(lines)-1] {
		parts := form.FindStringSubmatch(line)
		if parts == nil || parts[1] != fmt.Sprint(i) {
			return nil, false
		}
		l = append(l, parts[2:])
	}
	return l, true
}

// rise tells whether words, the first of each entry, are each greater than the one ahead of it, and not more than so many.
func rise(l [][]string, how int) bool {
	for i := range l {
		if i > 0 && l[i-1][0] >= l[i][0] {
			return false
		}
	}
	return len(l) <= how
}

func readTimeperiod(c *api.Config, said []string) bool {
	h := api.Hours{Name: said[1], Days: days(said[2]), From: toNumber(said[3])*60 + toNumber(said[4]), To: toNumber(said[5])*60 + toNumber(said[6])}
	c.Hours = append(c.Hours, h)
	return h.Days > 0 && h.From < h.To && h.To <= 1440
}

func readContact(c *api.Config, said []string) bool {
	c.Receivers = append(c.Receivers, said[1])
	return true
}

func readNotify(c *api.Config, said []string) bool {
	r := api.Route{Receiver: said[1], Wait: toNumber(said[2]), Every: toNumber(said[3]), Repeat: toNumber(said[4])}
	l, ok := entries(said[5], aPeriod)
	for _, x := range l {
		r.Mute = append(r.Mute, x[0])
	}
	c.Route = r
	return ok && rise(l, 8) && max(r.Wait, r.Every, r.Repeat) <= most
}

func readService(c *api.Config, said []string) bool {
	r := api.Rule{Name: said[1], Metric: said[2], How: 1 + slices.Index([]string{">", ">=", "<", "<=", "=="}, said[3]), Limit: toNumber(said[4]), Tries: toNumber(said[5])}
	l, ok := entries(said[6], aLabel)
	for _, x := range l {
		r.Labels = append(r.Labels, api.Label{Name: x[0], Value: x[1]})
		ok = ok && x[0] != "alert"
	}
	c.Rules = append(c.Rules, r)
	return ok && rise(l, 4) && r.How > 0 && max(r.Limit, -r.Limit) <= most
}

// trueBlock reads a block in another way; it is the first letter of its type, or nothing, if it is not as it must be.
func trueBlock(c *api.Config, d api.Def) string {
	s := d.Type + "\n"
	for i, key := range d.Keys {
		s += key + "\t" + d.Values[i] + "\n"
	}
	for _, x := range []struct {
		form *regexp.Regexp
		read func(*api.Config, []string) bool
	}{{aTimeperiod, readTimeperiod}, {aContact, readContact}, {aNotify, readNotify}, {aService, readService}} {
		if said := x.form.FindStringSubmatch(s); said != nil && x.read(c, said) {
			return s[:1]
		}
	}
	return ""
}

// once tells whether there are not more than so many words, and none twice.
func once[T any](l []T, how int, word func(T) string) bool {
	seen := map[string]bool{}
	for _, x := range l {
		seen[word(x)] = true
	}
	return len(l) <= how && len(seen) == len(l)
}

// trueImport is what a text is read as, found in another way.
func trueImport(s string) (api.Config, api.Errno, int) {
	l, e, line := block.Parse(s)
	if e != api.OK {
		return api.Config{}, e, line
	}
	var c api.Config
	letters := ""
	for i, d := range l {
		letter := trueBlock(&c, d)
		letters += letter
		if letter == "" || !inPlace.MatchString(letters) {
			return api.Config{}, api.ErrSchema, i + 1
		}
	}
	name := func(h api.Hours) string { return h.Name }
	ok := strings.Contains(letters, "n") && slices.Contains(c.Receivers, c.Route.Receiver) &&
		once(c.Rules, 16, func(r api.Rule) string { return r.Name }) && once(c.Receivers, 16, strings.Clone) && once(c.Hours, 8, name)
	for _, word := range c.Route.Mute {
		ok = ok && slices.ContainsFunc(c.Hours, func(h api.Hours) bool { return h.Name == word })
	}
	if !ok {
		return api.Config{}, api.ErrSchema, 0
	}
	return c, api.OK, 0
}

// ofBytes is a configuration whose text has so many bytes.
func ofBytes(t *testing.T, bytes int) api.Config {
	c := full()
	c.Rules = many(16, func(word string) api.Rule {
		r := rule(word)
		r.Labels = many(4, func(word string) api.Label { return api.Label{Name: word + long(50), Value: "v"} })
		return r
	})
	left := bytes - len(trueText(c))
	for i := range 64 {
		more := min(63, max(0, left))
		c.Rules[i/4].Labels[i%4].Value += strings.Repeat("v", more)
		left -= more
	}
	if got := len(trueText(c)); got != bytes {
		t.Fatalf("%d bytes, not %d", got, bytes)
	}
	return c
}

// shuffled is a configuration in another order.
func shuffled(r *rand.Rand, c api.Config) api.Config {
	c.Rules, c.Receivers, c.Hours = slices.Clone(c.Rules), slices.Clone(c.Receivers), slices.Clone(c.Hours)
	r.Shuffle(len(c.Rules), func(i, j int) { c.Rules[i], c.Rules[j] = c.Rules[j], c.Rules[i] })
	r.Shuffle(len(c.Receivers), func(i, j int) { c.Receivers[i], c.Receivers[j] = c.Receivers[j], c.Receivers[i] })
	r.Shuffle(len(c.Hours), func(i, j int) { c.Hours[i], c.Hours[j] = c.Hours[j], c.Hours[i] })
	return c
}

// randomWord is a word of chapter 6.
func randomWord(r *rand.Rand) string {
	word := make([]byte, 1+r.Intn(3))
	if r.Intn(30) == 0 {
		word = make([]byte, 60+r.Intn(5))
	}
	for i := range word {
		word[i] = wordBytes[r.Intn(len(wordBytes))]
	}
	return string(word)
}

// rising are some words of a kind, each greater than the one ahead of it.
func rising(r *rand.Rand, how int, word func() string) []string {
	var l []string
	for range r.Intn(how + 1) {
		l = append(l, word())
	}
	slices.Sort(l)
	return slices.Compact(l)
}

// randomNumber is one of 1 to 2^40, of any number of digits.
func randomNumber(r *rand.Rand) int {
	if r.Intn(10) == 0 {
		return []int{1, 9, 10, most - 1, most}[r.Intn(5)]
	}
	return 1 + int(r.Int63n(most)>>r.Intn(41))
}

// randomValue is a label's value that a block may have.
func randomValue(r *rand.Rand) string {
	value := make([]byte, 1+r.Intn(6))
	if r.Intn(30) == 0 {
		value = make([]byte, 60+r.Intn(5))
	}
	for i := range value {
		value[i] = byte(32 + r.Intn(95))
		if value[i] == ';' || i == len(value)-1 && value[i] == ' ' {
			value[i] = '='
		}
	}
	return string(value)
}

// randomRule is a rule that can be said so.
func randomRule(r *rand.Rand, name string) api.Rule {
	one := api.Rule{Name: name, Metric: randomWord(r), How: 1 + r.Intn(5), Limit: randomNumber(r) - 1, Tries: 1 + r.Intn(10)}
	if r.Intn(2) == 0 {
		one.Limit = -one.Limit
	}
	for _, name := range rising(r, 4, func() string { return []string{"A", "Job", "_", "a", "b2", "job", "sev", "z"}[r.Intn(8)] }) {
		one.Labels = append(one.Labels, api.Label{Name: name, Value: randomValue(r)})
	}
	return one
}

// randomConfig is a configuration that can be said so, in any order.
func randomConfig(r *rand.Rand) api.Config {
	word := func() string { return randomWord(r) }
	c := api.Config{Receivers: append(rising(r, 5, word), "the_last")}
	mutes := rising(r, 5, word)
	for _, name := range mutes {
		from := r.Intn(1440)
		c.Hours = append(c.Hours, api.Hours{Name: name, Days: 1 + r.Intn(127), From: from, To: from + 1 + r.Intn(1440-from)})
	}
	for _, name := range rising(r, 6, word) {
		c.Rules = append(c.Rules, randomRule(r, name))
	}
	c.Route = api.Route{Receiver: c.Receivers[r.Intn(len(c.Receivers))], Wait: randomNumber(r) - 1, Every: randomNumber(r), Repeat: randomNumber(r)}
	if len(mutes) > 0 {
		c.Route.Mute = rising(r, 4, func() string { return mutes[r.Intn(len(mutes))] })
	}
	return shuffled(r, c)
}
