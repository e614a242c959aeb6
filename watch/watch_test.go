package watch

import (
	"fmt"
	"math"
	"slices"
	"strings"
	"testing"

	"transhipment/api"
)

const most = 1099511627776 // of ticks and of values

// pairs are labels of names and values by turns, whether they may be or not.
func pairs(said ...string) []api.Label {
	var l []api.Label
	for i := 0; i < len(said); i += 2 {
		l = append(l, api.Label{Name: said[i], Value: said[i+1]})
	}
	return l
}

// lettered are labels of one-letter names from one on, so many.
func lettered(from byte, many int) []api.Label {
	var l []api.Label
	for i := range many {
		l = append(l, api.Label{Name: string([]byte{from + byte(i)}), Value: "v"})
	}
	return l
}

// long is a text of that many bytes.
func long(many int) string { return strings.Repeat("n", many) }

// rule is one by which 6 fires, and 5 does not.
func rule(name string) api.Rule {
	return api.Rule{Name: name, Metric: "m", How: api.CAbove, Limit: 5, For: 5, Keep: 10, Tries: 2}
}

// sudden is one whose alerts fire at once, and are kept for no time.
func sudden(name string) api.Rule {
	return api.Rule{Name: name, Metric: "m", How: api.CAbove, Limit: 5, Tries: 1}
}

// these are rules of names.
func these(names ...string) []api.Rule {
	var l []api.Rule
	for _, name := range names {
		l = append(l, rule(name))
	}
	return l
}

// of is a sample of the rules' metric, with labels.
func of(value int, said ...string) api.Sample {
	return api.Sample{Metric: "m", Labels: pairs(said...), Value: value}
}

// An alert of a rule, of no labels but its own, in each state.
func pending(name string, since, tries int) api.Alert {
	return api.Alert{Rule: name, Labels: pairs("alert", name), State: api.SPending, Since: since, Tries: tries}
}

func firing(name string, since, tries int) api.Alert {
	x := pending(name, since, tries)
	x.State = api.SFiring
	return x
}

func kept(name string, since, tries, ended int) api.Alert {
	x := pending(name, since, tries)
	x.State, x.Ended = api.SKept, ended
	return x
}

// some are alerts that fire, of one rule, so many, and of labels from a number on.
func some(name string, from, many int) []api.Alert {
	var l []api.Alert
	for i := range many {
		x := firing(name, 0, 2)
		x.Labels = pairs("alert", name, "n", fmt.Sprintf("%03d", from+i))
		l = append(l, x)
	}
	return l
}

// show is a thing as a text, of which no more than its beginning stands.
func show(x any) string { return fmt.Sprintf("%.1000s", fmt.Sprint(x)) }

// with is an alert with a change.
func with(x api.Alert, change func(x *api.Alert)) api.Alert {
	change(&x)
	return x
}

func likeAlert(a, b api.Alert) bool {
	return a.Rule == b.Rule && slices.Equal(a.Labels, b.Labels) && a.State == b.State && a.Since == b.Since && a.Tries == b.Tries && a.Ended == b.Ended
}

func likeChange(a, b api.Change) bool {
	return slices.Equal(a.Labels, b.Labels) && a.Fires == b.Fires
}

// on are changes to firing, of rules' alerts that have no other labels; off are those to firing no more.
func on(names ...string) []api.Change {
	var l []api.Change
	for _, name := range names {
		l = append(l, api.Change{Labels: pairs("alert", name), Fires: true})
	}
	return l
}

func off(names ...string) []api.Change {
	l := on(names...)
	for i := range l {
		l[i].Fires = false
	}
	return l
}

// answer is what Take or Pass answers.
type answer struct {
	alerts  []api.Alert
	changes []api.Change
	e       api.Errno
}

func take(l []api.Rule, a []api.Alert, s api.Sample, now int) answer {
	alerts, changes, e := Take(l, a, s, now)
	return answer{alerts, changes, e}
}

func pass(l []api.Rule, a []api.Alert, now int) answer {
	alerts, changes, e := Pass(l, a, now)
	return answer{alerts, changes, e}
}

// is fails, if an answer is another one than it must be.
func (got answer) is(t *testing.T, what string, want answer) {
	t.Helper()
	if !slices.EqualFunc(got.alerts, want.alerts, likeAlert) || !slices.EqualFunc(got.changes, want.changes, likeChange) || got.e != want.e {
		t.Fatalf("%s:\n%s, not\n%s", what, show(got), show(want))
	}
}

// refused fails, if an answer is not that error alone.
func (got answer) refused(t *testing.T, what string, want api.Errno) {
	t.Helper()
	got.is(t, what, answer{e: want})
}

// right fails, if rules, or the alerts of them, may not be.
func right(t *testing.T, what string, l []api.Rule, a []api.Alert) {
	t.Helper()
	if !Right(l, a) {
		t.Errorf("%s: %s of %s may not be", what, show(a), show(l))
	}
	if got := pass(l, a, most); got.e != api.OK {
		t.Errorf("%s: Pass tells %d", what, got.e)
	}
	if got := take(l, a, api.Sample{Metric: "other"}, most); got.e != api.OK || !slices.EqualFunc(got.alerts, a, likeAlert) {
		t.Errorf("%s: Take answers %s", what, show(got))
	}
}

// wrong fails, if rules, and the alerts of them, may be.
func wrong(t *testing.T, what string, l []api.Rule, a []api.Alert) {
	t.Helper()
	if Right(l, a) {
		t.Errorf("%s: %s of %s may be", what, show(a), show(l))
	}
	for _, now := range []int{0, most, -1, math.MaxInt} {
		pass(l, a, now).refused(t, what, api.ErrArg)
		take(l, a, of(6), now).refused(t, what, api.ErrArg)
		take(l, a, of(5, "a", ""), now).refused(t, what, api.ErrArg)
	}
}

// asked fails, if rules and alerts may not be, and should, or may, and should not.
func asked(t *testing.T, what string, l []api.Rule, a []api.Alert, want bool) {
	t.Helper()
	if want {
		right(t, what, l, a)
	} else {
		wrong(t, what, l, a)
	}
}

// P14.1: rules that may be: how many, each of them, and no name twice.
func TestRightRules(t *testing.T) {
	right(t, "none", nil, nil)
	right(t, "none", []api.Rule{}, []api.Alert{})
	right(t, "in any order", these("b", "c", "a"), nil)
	for many := range 20 {
		var l []api.Rule
		for i := range many {
			l = append(l, rule(fmt.Sprint("r", i)))
		}
		asked(t, fmt.Sprint(many, " rules"), l, nil, many <= 16)
		for i := range many {
			for j := range i {
				twice := slices.Clone(l)
				twice[i].Name = l[j].Name
				wrong(t, fmt.Sprint("twice ", i, j), twice, nil)
				twice[i] = l[i]
				twice[i].Metric, twice[i].Labels, twice[i].Limit = l[j].Metric, l[j].Labels, l[j].Limit
				asked(t, fmt.Sprint("but the name ", i, j), twice, nil, many <= 16)
			}
			for k, change := range []func(r *api.Rule){
				func(r *api.Rule) { *r = api.Rule{} },
				func(r *api.Rule) { r.Name = "" },
				func(r *api.Rule) { r.Name = "R" },
				func(r *api.Rule) { r.Metric = long(65) },
				func(r *api.Rule) { r.How = 0 },
				func(r *api.Rule) { r.How = 6 },
				func(r *api.Rule) { r.Limit = most + 1 },
				func(r *api.Rule) { r.For = -1 },
				func(r *api.Rule) { r.Keep = most + 1 },
				func(r *api.Rule) { r.Tries = 0 },
				func(r *api.Rule) { r.Tries = 11 },
				func(r *api.Rule) { r.Labels = pairs("alert", r.Name) },
				func(r *api.Rule) { r.Labels = lettered('a', 5) },
			} {
				one := slices.Clone(l)
				change(&one[i])
				wrong(t, fmt.Sprint("rule ", i, " of ", many, ", ", k), one, nil)
			}
		}
	}
}

// P14.1: an alert that may be, each edge of it, wherever it stands.
func TestRightAlert(t *testing.T) {
	l := these("c", "a", "b")
	for k, c := range []struct {
		change func(x *api.Alert)
		want   bool
	}{
		{func(x *api.Alert) {}, true},
		{func(x *api.Alert) { x.Labels = pairs("a", "v", "alert", "b") }, true},
		{func(x *api.Alert) { x.Labels = pairs("alert", "b", "b", "a", "c", "c") }, true},
		{func(x *api.Alert) { x.Labels = append(pairs("alert", "b"), lettered('b', 7)...) }, true},
		{func(x *api.Alert) { x.Labels = append(pairs("alert", "b"), lettered('b', 8)...) }, false},
		{func(x *api.Alert) { x.Labels = nil }, false},
		{func(x *api.Alert) { x.Labels = pairs("alert", "a") }, false},
		{func(x *api.Alert) { x.Labels = pairs("alert", "b ") }, false},
		{func(x *api.Alert) { x.Labels = pairs("alert", "") }, false},
		{func(x *api.Alert) { x.Labels = pairs("Alert", "b") }, false},
		{func(x *api.Alert) { x.Labels = pairs("alerts", "b") }, false},
		{func(x *api.Alert) { x.Labels = pairs("Alert", "b", "a", "b", "b", "b") }, false},
		{func(x *api.Alert) { x.Labels = pairs("alert", "b", "alert", "b") }, false},
		{func(x *api.Alert) { x.Labels = pairs("alert", "b", "a", "v") }, false},
		{func(x *api.Alert) { x.Labels = pairs("alert", "b", "b", "") }, false},
		{func(x *api.Alert) { x.Labels = pairs("alert", "b", "b", "\x7f") }, false},
		{func(x *api.Alert) { x.Labels = pairs("alert", "b", "b-", "v") }, false},
		{func(x *api.Alert) { x.Rule = "a" }, false},
		{func(x *api.Alert) { x.Rule = "" }, false},
		{func(x *api.Alert) { x.Rule, x.Labels = "", nil }, false},
		{func(x *api.Alert) { x.Rule, x.Labels = "", pairs("a", "b") }, false},
		{func(x *api.Alert) { x.Rule, x.Labels = "bb", pairs("alert", "bb") }, false},
		{func(x *api.Alert) { x.Rule, x.Labels = "m", pairs("alert", "m") }, false},
		{func(x *api.Alert) { x.State = 0 }, false},
		{func(x *api.Alert) { x.State = 4 }, false},
		{func(x *api.Alert) { x.State = -1 }, false},
		{func(x *api.Alert) { x.State = math.MinInt }, false},
		{func(x *api.Alert) { x.State = math.MaxInt }, false},
		{func(x *api.Alert) { x.State = 1<<32 | 1 }, false},
		{func(x *api.Alert) { *x = api.Alert{} }, false},
	} {
		for _, x := range []api.Alert{pending("b", 3, 2), firing("b", 3, 2), kept("b", 3, 2, 4)} {
			x = with(x, c.change)
			for _, a := range [][]api.Alert{{x}, {firing("a", 0, 1), x}, {x, firing("c", 0, 1)}, {firing("a", 0, 1), x, firing("c", 0, 1)}} {
				asked(t, fmt.Sprint("change ", k), l, a, c.want)
			}
		}
	}
}

// P14.1: an alert's numbers, about the least and the greatest, in each state.
func TestRightNumbers(t *testing.T) {
	l := these("a")
	numbers := []int{math.MinInt, -most, -2, -1, 0, 1, 2, 3, 4, 5, 9, 10, 11, 12, 100, most - 2, most - 1, most, most + 1, most + 2, 2 * most, math.MaxInt}
	for _, n := range numbers {
		for state, x := range map[int]api.Alert{api.SPending: pending("a", 0, 1), api.SFiring: firing("a", 0, 1), api.SKept: kept("a", 0, 1, most)} {
			asked(t, fmt.Sprint("since ", n), l, []api.Alert{with(x, func(x *api.Alert) { x.Since = n })}, n >= 0 && n <= most)
			asked(t, fmt.Sprint("tries ", n), l, []api.Alert{with(x, func(x *api.Alert) { x.Tries = n })}, n >= 1 && n <= 10)
			asked(t, fmt.Sprint("state ", n), l, []api.Alert{with(x, func(x *api.Alert) { x.State = n })},
				n == api.SKept || (n == api.SPending || n == api.SFiring) && state != api.SKept)
			for _, since := range []int{0, 3, most - 1, most} {
				x := with(x, func(x *api.Alert) { x.Since, x.Ended = since, n })
				want := n == 0
				if state == api.SKept {
					want = n >= since && n <= most
				}
				asked(t, fmt.Sprint("in state ", state, " since ", since, " ended ", n), l, []api.Alert{x}, want)
			}
		}
	}
}

// P14.1: in which order alerts stand: by their rule, and then by their labels' text, in which a quote is above `!`, a comma below `}`, and a digit below `=`.
func TestRightOrder(t *testing.T) {
	l := these("b", "a", "a_b", "ab", "_")
	labels := func(name string, said ...string) api.Alert {
		return api.Alert{Rule: name, Labels: pairs(said...), State: api.SFiring, Since: 1, Tries: 1}
	}
	rising := []api.Alert{
		labels("_", "alert", "_"),
		labels("a", "A", "z", "alert", "a"),
		labels("a", "_", "z", "alert", "a"),
		labels("a", "a1", "1", "alert", "a"),
		labels("a", "a", "1!", "alert", "a"),
		labels("a", "a", "1", "alert", "a"),
		labels("a", "a", "10", "alert", "a"),
		labels("a", "a", "2", "alert", "a"),
		labels("a", "a", "A", "alert", "a"),
		labels("a", "a", "\"", "alert", "a"),
		labels("a", "a", "\"\\", "alert", "a"),
		labels("a", "a", "\\", "alert", "a"),
		labels("a", "a", "a", "alert", "a"),
		labels("a", "aa", "1", "alert", "a"),
		labels("a", "alert", "a", "b", "1", "c", "1"),
		labels("a", "alert", "a", "b", "1", "d", "0"),
		labels("a", "alert", "a", "b", "1"),
		labels("a", "alert", "a", "b", "2"),
		labels("a", "alert", "a"),
		labels("a_b", "alert", "a_b"),
		labels("ab", "alert", "ab"),
		labels("b", "A", "0", "alert", "b"),
		labels("b", "alert", "b"),
	}
	right(t, "all", l, rising)
	for i := range rising {
		for j := range rising {
			asked(t, fmt.Sprint(i, " ahead of ", j), l, []api.Alert{rising[i], rising[j]}, i < j)
			other := with(rising[j], func(x *api.Alert) { x.State, x.Since, x.Tries = api.SPending, 0, 3 })
			asked(t, fmt.Sprint(i, " ahead of another one of ", j), l, []api.Alert{rising[i], other}, i < j)
		}
		swapped := slices.Clone(rising)
		swapped[i], swapped[max(1, i)-1] = swapped[max(1, i)-1], swapped[i]
		asked(t, fmt.Sprint(i, " swapped"), l, swapped, i == 0)
		wrong(t, fmt.Sprint(i, " twice"), l, slices.Insert(slices.Clone(rising), i, rising[i]))
		right(t, fmt.Sprint("without ", i), l, slices.Delete(slices.Clone(rising), i, i+1))
	}
}

// P14.1: how many alerts there may be, and of which rules.
func TestRightAlerts(t *testing.T) {
	for _, many := range []int{0, 1, 2, 63, 64, 65, 66, 200} {
		asked(t, fmt.Sprint(many, " alerts"), these("a"), some("a", 0, many), many <= 64)
		half := many / 2
		asked(t, fmt.Sprint(many, " alerts of two"), these("b", "a"), append(some("a", 0, half), some("b", 0, many-half)...), many <= 64)
		asked(t, fmt.Sprint(many, " alerts of no rule"), nil, some("a", 0, many), many == 0)
		for i := range many {
			a := some("a", 0, many)
			a[i].Tries = 0
			wrong(t, fmt.Sprint("alert ", i, " of ", many), these("a"), a)
			a = some("a", 0, many)
			a[i].Rule, a[i].Labels[0].Value = "b", "b"
			wrong(t, fmt.Sprint("another rule's ", i, " of ", many), these("a"), a)
		}
	}
	wrong(t, "alerts of rules that may not be", these("a", "a"), some("a", 0, 2))
	wrong(t, "alerts of rules that may not be", []api.Rule{{Name: "a"}}, some("a", 0, 2))
	right(t, "an alert that lacks its rule's labels", []api.Rule{{Name: "a", Metric: "m", How: 1, Tries: 9, Labels: pairs("sev", "hi")}}, []api.Alert{firing("a", 0, 1)})
}

// P14.1: the labels of alerts that fire, or are kept, in the order in which they stand, whether they may be or not.
func TestFiring(t *testing.T) {
	odd := with(firing("", -1, -1), func(x *api.Alert) { x.Labels = pairs("", "", "a", "") })
	none := with(firing("", 0, 0), func(x *api.Alert) { x.Labels = nil })
	for _, c := range []struct {
		a    []api.Alert
		want [][]api.Label
	}{
		{nil, nil},
		{[]api.Alert{}, nil},
		{[]api.Alert{pending("a", 0, 1)}, nil},
		{[]api.Alert{firing("a", 0, 1)}, [][]api.Label{pairs("alert", "a")}},
		{[]api.Alert{kept("a", 0, 1, 0)}, [][]api.Label{pairs("alert", "a")}},
		{[]api.Alert{pending("a", 0, 1), kept("b", 0, 1, 5), pending("c", 0, 1), firing("d", 0, 1), pending("e", 0, 1)}, [][]api.Label{pairs("alert", "b"), pairs("alert", "d")}},
		{[]api.Alert{firing("c", 0, 1), kept("a", 0, 1, 1), firing("b", 0, 1), firing("a", 0, 1)}, [][]api.Label{pairs("alert", "c"), pairs("alert", "a"), pairs("alert", "b"), pairs("alert", "a")}},
		{[]api.Alert{odd, none, odd}, [][]api.Label{odd.Labels, nil, odd.Labels}},
		{[]api.Alert{{Labels: pairs("a", "v")}, {State: 4}, {State: -1}, {State: 1<<32 | 2}, {State: math.MaxInt}, {State: math.MinInt}}, nil},
	} {
		if got := Firing(c.a); !slices.EqualFunc(got, c.want, slices.Equal) {
			t.Errorf("of %v %v fire, not %v", c.a, got, c.want)
		}
	}
	if got := Firing(some("a", 0, 1000)); len(got) != 1000 || got[999][1].Value != "999" {
		t.Errorf("of a thousand fire %d", len(got))
	}
}
