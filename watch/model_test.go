package watch

import (
	"fmt"
	"math/rand"
	"slices"
	"sort"
	"strings"
	"testing"

	"transhipment/api"
)

// past is all that happened to an alert of a rule and labels, from the first sample on.
type past struct {
	rule   api.Rule
	labels []api.Label
	at     []int  // when samples came
	fired  []bool // and whether they fired
	told   bool
	since  int // of when it was told last
	tries  int
}

// run is how many samples, the last ones, were as the last one, and when the first of these came.
func (p *past) run() (many, first int) {
	i := len(p.at)
	for i > 0 && p.fired[i-1] == p.fired[len(p.at)-1] {
		i--
	}
	return min(10, len(p.at)-i), p.at[i]
}

// rises tells whether it fires from now on.
func (p *past) rises(now int) bool {
	many, first := p.run()
	if p.told || !p.fired[len(p.at)-1] || many < p.rule.Tries || first+p.rule.For > now {
		return false
	}
	p.told, p.since, p.tries = true, first, many
	return true
}

// falls tells whether it fires no more from now on.
func (p *past) falls(now int) bool {
	_, first := p.run()
	if !p.told || p.fired[len(p.at)-1] || first+p.rule.Keep > now {
		return false
	}
	p.told = false
	return true
}

// alert is that of all that happened, if there is one now.
func (p *past) alert() []api.Alert {
	many, first := p.run()
	x := api.Alert{Rule: p.rule.Name, Labels: p.labels, Since: p.since, Tries: p.tries}
	switch last := p.fired[len(p.at)-1]; {
	case p.told && last:
		x.State = api.SFiring
	case p.told:
		x.State, x.Ended = api.SKept, first
	case last:
		x.State, x.Since, x.Tries = api.SPending, first, many
	default:
		return nil
	}
	return []api.Alert{x}
}

// model is what happened to all alerts, by what they are sorted by.
type model map[string]*past

// quoted has a value be as it is in quotes.
var quoted = strings.NewReplacer(`"`, `\"`, `\`, `\\`)

// key is what an alert is sorted by.
func key(name string, l []api.Label) string {
	var said []string
	for _, x := range l {
		said = append(said, x.Name+`="`+quoted.Replace(x.Value)+`"`)
	}
	return name + "\x00{" + strings.Join(said, ",") + "}"
}

func (m model) keys() []string {
	var l []string
	for k := range m {
		l = append(l, k)
	}
	sort.Strings(l)
	return l
}

func (m model) alerts() []api.Alert {
	var a []api.Alert
	for _, k := range m.keys() {
		a = append(a, m[k].alert()...)
	}
	return a
}

// copied is a model that goes on by itself.
func (m model) copied() model {
	c := model{}
	for k, p := range m {
		one := *p
		one.at, one.fired = slices.Clone(p.at), slices.Clone(p.fired)
		c[k] = &one
	}
	return c
}

// trueLabels are those of a rule's alert.
func trueLabels(r api.Rule, l []api.Label) []api.Label {
	values := map[string]string{}
	for _, x := range slices.Concat(l, r.Labels, pairs("alert", r.Name)) {
		values[x.Name] = x.Value
	}
	var all []api.Label
	for name, value := range values {
		all = append(all, api.Label{Name: name, Value: value})
	}
	slices.SortFunc(all, func(a, b api.Label) int { return strings.Compare(a.Name, b.Name) })
	return all
}

// trueFires tells whether a value fires.
func trueFires(r api.Rule, value int) bool {
	switch {
	case value < r.Limit:
		return r.How == api.CBelow || r.How == api.CTo
	case value > r.Limit:
		return r.How == api.CAbove || r.How == api.CFrom
	}
	return r.How == api.CFrom || r.How == api.CTo || r.How == api.CIs
}

// take is what a model comes to, and what Take must answer, by a sample that may be.
func (m model) take(l []api.Rule, s api.Sample, now int) (model, answer) {
	next := m.copied()
	var want answer
	for _, r := range l {
		if r.Metric != s.Metric {
			continue
		}
		labels := trueLabels(r, s.Labels)
		if len(labels) > 8 {
			return m, answer{e: api.ErrLong}
		}
		p := next[key(r.Name, labels)]
		if p == nil {
			p = &past{rule: r, labels: labels}
			next[key(r.Name, labels)] = p
		}
		p.at, p.fired = append(p.at, now), append(p.fired, trueFires(r, s.Value))
		if p.rises(now) || p.falls(now) {
			want.changes = append(want.changes, api.Change{Labels: labels, Fires: p.told})
		}
	}
	want.alerts = next.alerts()
	if len(want.alerts) > 64 {
		return m, answer{e: api.ErrFull}
	}
	return next, want
}

// pass is what a model comes to, and what Pass must answer.
func (m model) pass(now int) (model, answer) {
	next := m.copied()
	var want answer
	for _, k := range next.keys() {
		if next[k].falls(now) {
			want.changes = append(want.changes, api.Change{Labels: next[k].labels})
		}
	}
	want.alerts = next.alerts()
	return next, want
}

// randomRules are rules of few metrics, in any order.
func randomRules(r *rand.Rand) []api.Rule {
	var l []api.Rule
	for i := range 1 + r.Intn(16) {
		one := api.Rule{Name: fmt.Sprint("r", i), Metric: []string{"m", "m", "n"}[r.Intn(3)], How: 1 + r.Intn(5), Limit: r.Intn(4) - 1}
		one.For, one.Keep, one.Tries = r.Intn(1+r.Intn(12)), r.Intn(1+r.Intn(12)), 1+r.Intn(1+r.Intn(10))
		if r.Intn(3) == 0 {
			one.Labels = pairs("job", fmt.Sprint(r.Intn(2)))
		}
		l = append(l, one)
	}
	r.Shuffle(len(l), func(i, j int) { l[i], l[j] = l[j], l[i] })
	return l
}

// randomSample is one of few labels, and of values about the rules' limits.
func randomSample(r *rand.Rand, sets int) api.Sample {
	s := api.Sample{Metric: []string{"m", "m", "n", "other"}[r.Intn(4)], Value: r.Intn(6) - 2}
	switch r.Intn(40) {
	case 0:
		s.Labels = append(pairs("alert", "x"), lettered('b', 7)...)
	case 1:
		s.Labels = lettered('a', 8)
	default:
		s.Labels = pairs("a", []string{"1", "1!", `"`, `\`, "b"}[r.Intn(min(5, sets))])
		if r.Intn(2) == 0 {
			s.Labels = pairs("a", "1", "job", "2", "x", fmt.Sprint(r.Intn(sets)))
		}
	}
	return s
}

// P14.1, P14.2: random samples and times, held against all that happened.
func TestRandom(t *testing.T) {
	random := rand.New(rand.NewSource(1))
	told := map[api.Errno]int{}
	for range 200 {
		l, m, now, sets := randomRules(random), model{}, random.Intn(3), 1+random.Intn(20)
		var a []api.Alert
		for range 150 {
			now += random.Intn(1 + random.Intn(4))
			var got, want answer
			next := m
			if random.Intn(4) == 0 {
				next, want = m.pass(now)
				got = pass(l, a, now)
			} else {
				s := randomSample(random, sets)
				next, want = m.take(l, s, now)
				got = take(l, a, s, now)
			}
			got.is(t, "at "+fmt.Sprint(now), want)
			told[got.e]++
			if got.e == api.OK {
				m, a = next, got.alerts
			}
			if !Right(l, a) {
				t.Fatalf("%v may not be", a)
			}
		}
	}
	if told[api.OK] < 20000 || told[api.ErrLong] < 200 || told[api.ErrFull] < 200 {
		t.Errorf("of errors were told %v", told)
	}
}

// history is what came to labels, from when it was told last on, that they fire, or do so no more.
type history struct {
	fires       bool
	rose, ended int // when samples fired, or ended, without another one between; -1, if the last one was another one
	tries       int
}

// P14.3: alerts that may be stay such; what changes alternates; nothing fires sooner than For and Tries, or ends sooner than Keep; the alerts that stand, too, are just those that fire.
func TestFollows(t *testing.T) {
	random := rand.New(rand.NewSource(2))
	changed := 0
	for range 300 {
		l, now := randomRules(random), 0
		been := map[string]*history{}
		var a []api.Alert
		for range 150 {
			now += random.Intn(3)
			s := randomSample(random, 3)
			got := pass(l, a, now)
			if random.Intn(3) > 0 {
				got = take(l, a, s, now)
				if got.e == api.OK {
					comes(l, been, s, now)
				}
			}
			if got.e != api.OK {
				continue
			}
			for _, c := range got.changes {
				changed++
				may(t, l, been, c, now)
			}
			a = got.alerts
			if !Right(l, a) {
				t.Fatalf("%v may not be", a)
			}
			told := 0
			for _, labels := range Firing(a) {
				if h := been[key("", labels)]; h == nil || !h.fires {
					t.Fatalf("%v fires, and was not told", labels)
				}
			}
			for _, h := range been {
				if h.fires {
					told++
				}
			}
			if told != len(Firing(a)) {
				t.Fatalf("%d were told, and %d fire", told, len(Firing(a)))
			}
		}
	}
	if changed < 5000 {
		t.Errorf("%d changed", changed)
	}
}

// comes has a sample come to the histories of the labels that it comes to.
func comes(l []api.Rule, been map[string]*history, s api.Sample, now int) {
	for _, r := range l {
		if r.Metric != s.Metric {
			continue
		}
		k := key("", trueLabels(r, s.Labels))
		h := been[k]
		if h == nil {
			h = &history{rose: -1, ended: -1}
			been[k] = h
		}
		if !trueFires(r, s.Value) {
			h.rose, h.tries = -1, 0
			if h.ended < 0 {
				h.ended = now
			}
			continue
		}
		h.ended = -1
		if h.rose < 0 {
			h.rose = now
		}
		h.tries++
	}
}

// may fails, if a change may not be.
func may(t *testing.T, l []api.Rule, been map[string]*history, c api.Change, now int) {
	t.Helper()
	h := been[key("", c.Labels)]
	at := slices.IndexFunc(l, func(r api.Rule) bool { return slices.Contains(c.Labels, api.Label{Name: "alert", Value: r.Name}) })
	if h == nil || at < 0 || h.fires == c.Fires {
		t.Fatalf("%v changes to %v again: %v", c.Labels, c.Fires, h)
	}
	r := l[at]
	if c.Fires && (h.rose < 0 || now-h.rose < r.For || h.tries < r.Tries) {
		t.Fatalf("%v fires at %d too soon by %v: %v", c.Labels, now, r, h)
	}
	if !c.Fires && (h.ended < 0 || now-h.ended < r.Keep) {
		t.Fatalf("%v fires no more at %d too soon by %v: %v", c.Labels, now, r, h)
	}
	h.fires = c.Fires
}

// P1: whatever is handed in, every call ends, and answers nothing beside an error.
func TestAnything(t *testing.T) {
	random := rand.New(rand.NewSource(3))
	numbers := []int{-1 << 63, -most - 1, -most, -1, 0, 1, 2, 3, 4, 9, 10, 11, most - 1, most, most + 1, 1<<63 - 1}
	number := func() int { return numbers[random.Intn(len(numbers))] }
	usual := func(n int) int {
		if random.Intn(20) == 0 {
			return number()
		}
		return n
	}
	word := func() string {
		return []string{"", "a", "a", "b", "b", "alert", "m", "m", long(65), "A", "\xff"}[random.Intn(11)]
	}
	told := map[api.Errno]int{}
	for range 200000 {
		var l []api.Rule
		for range random.Intn(3) {
			l = append(l, api.Rule{Name: word(), Metric: "m", How: usual(1), Limit: usual(5), For: usual(0), Keep: usual(0), Tries: usual(1)})
		}
		var a []api.Alert
		for range random.Intn(3) {
			name := word()
			x := api.Alert{Rule: name, Labels: pairs("alert", name), State: usual(1 + random.Intn(3)), Since: usual(random.Intn(3)), Tries: usual(1)}
			if x.State == api.SKept {
				x.Ended = usual(1 + random.Intn(3))
			}
			a = append(a, x)
		}
		s := api.Sample{Metric: word(), Value: usual(6)}
		if random.Intn(3) == 0 {
			s.Labels = pairs(word(), word())
		}
		now := usual(random.Intn(4))
		ok := Right(l, a) && now >= 0 && now <= most
		right := ok && s.Metric == "m" && len(s.Labels) == 0 && s.Value >= -most && s.Value <= most
		passed, taken := pass(l, a, now), take(l, a, s, now)
		if ok != (passed.e != api.ErrArg) || right && taken.e == api.ErrArg || !ok && taken.e != api.ErrArg {
			t.Fatalf("%v %v %v %d: %v, %v", l, a, s, now, passed, taken)
		}
		for _, got := range []answer{passed, taken} {
			told[got.e]++
			if got.e != api.OK {
				got.refused(t, "anything", got.e)
			}
		}
		Firing(a)
	}
	if told[api.OK] < 10000 || told[api.ErrArg] < 10000 || told[api.ErrPast] < 1000 {
		t.Errorf("of errors were told %v", told)
	}
}
