package watch

import (
	"fmt"
	"math"
	"slices"
	"strings"
	"testing"

	"transhipment/api"
)

// P14.2: samples that may not be, ahead of what their labels would tell.
func TestTakeSample(t *testing.T) {
	l := []api.Rule{rule("a"), {Name: "b", Metric: "m", How: api.CAbove, Tries: 1, Labels: lettered('p', 4)}}
	full := some("a", 0, 64)
	for b := range 256 {
		one := string([]byte{byte(b)})
		for _, word := range []string{one, one + "x", "x" + one, "x" + one + "x"} {
			got := take(l, nil, api.Sample{Metric: word}, 0)
			if ok := strings.Contains("abcdefghijklmnopqrstuvwxyz0123456789_", one); ok != (got.e == api.OK) || !ok && got.e != api.ErrArg {
				t.Errorf("of metric %q: %v", word, got)
			}
		}
	}
	for _, c := range []struct {
		s    api.Sample
		want api.Errno
	}{
		{api.Sample{Metric: "x"}, api.OK},
		{api.Sample{Metric: long(64), Labels: lettered('a', 8), Value: most}, api.OK},
		{api.Sample{Metric: "x", Labels: []api.Label{}, Value: -most}, api.OK},
		{api.Sample{Metric: "x", Labels: pairs("alert", "no")}, api.OK},
		{api.Sample{}, api.ErrArg},
		{api.Sample{Metric: ""}, api.ErrArg},
		{api.Sample{Metric: long(65)}, api.ErrArg},
		{api.Sample{Metric: "m", Value: most + 1}, api.ErrArg},
		{api.Sample{Metric: "m", Value: -most - 1}, api.ErrArg},
		{api.Sample{Metric: "m", Value: math.MaxInt}, api.ErrArg},
		{api.Sample{Metric: "m", Value: math.MinInt}, api.ErrArg},
		{api.Sample{Metric: "m", Labels: lettered('a', 9)}, api.ErrArg},
		{api.Sample{Metric: "x", Labels: lettered('a', 9)}, api.ErrArg},
		{api.Sample{Metric: "x", Value: most + 1}, api.ErrArg},
		{api.Sample{Metric: "m", Labels: pairs("b", "v", "a", "v")}, api.ErrArg},
		{api.Sample{Metric: "m", Labels: pairs("a", "v", "a", "v")}, api.ErrArg},
		{api.Sample{Metric: "m", Labels: pairs("a", "")}, api.ErrArg},
		{api.Sample{Metric: "m", Labels: pairs("1", "v")}, api.ErrArg},
		{api.Sample{Metric: "x", Labels: pairs("", "v")}, api.ErrArg},
		{api.Sample{Metric: "M", Labels: lettered('a', 8), Value: 6}, api.ErrArg},
		{api.Sample{Metric: "m", Labels: lettered('a', 8), Value: most + 1}, api.ErrArg},
		{api.Sample{Metric: "m", Labels: lettered('a', 8), Value: 6}, api.ErrLong},
		{api.Sample{Metric: "m", Labels: lettered('a', 8), Value: -6}, api.ErrLong},
		{api.Sample{Metric: "m", Labels: lettered('a', 4), Value: 6}, api.ErrLong},
	} {
		for _, a := range [][]api.Alert{nil, {firing("a", 0, 2)}, full} {
			want := answer{e: c.want}
			if c.want == api.OK {
				want.alerts = a
			}
			take(l, a, c.s, 0).is(t, fmt.Sprint(c.s), want)
		}
	}
}

// P14.2: a rule's labels tell an error, though its alert is not there, and ahead of there being too many, wherever the rule is; but only one of the sample's metric.
func TestTakeLong(t *testing.T) {
	long := rule("long")
	long.Labels = pairs("z", "v")
	for at := range 4 {
		l := slices.Insert([]api.Rule{sudden("a"), sudden("b"), sudden("c")}, at, long)
		for _, a := range [][]api.Alert{nil, some("a", 0, 64), some("b", 0, 63)} {
			for _, value := range []int{5, 6} {
				s := of(value)
				s.Labels = lettered('a', 7)
				take(l, a, s, 9).refused(t, "too many labels", api.ErrLong)
				s.Labels = append(pairs("alert", "x"), lettered('b', 7)...)
				take(l, a, s, 9).refused(t, "too many labels", api.ErrLong)
			}
		}
		l[at].Metric = "other"
		s := of(6)
		s.Labels = lettered('a', 7)
		if got := take(l, nil, s, 9); got.e != api.OK || len(got.alerts) != 3 || len(got.changes) != 3 {
			t.Errorf("of another metric: %v", got)
		}
		s.Labels = lettered('t', 7) // with z, that is laid over its own
		l[at].Metric = "m"
		if got := take(l, nil, s, 9); got.e != api.OK || len(got.alerts) != 4 || len(got.changes) != 3 {
			t.Errorf("of just eight labels: %v", got)
		}
	}
}

// P14.2: how many alerts there may be behind a sample.
func TestTakeFull(t *testing.T) {
	up := sudden("up")
	down := sudden("down")
	down.How, down.Limit = api.CBelow, 0 // what fires by up ends by it
	leaves := pending("down", 0, 1)
	for _, c := range []struct {
		what string
		l    []api.Rule
		a    []api.Alert
		want int // how many there are; none beside an error
	}{
		{"one more", []api.Rule{up}, some("up", 0, 63), 64},
		{"one too many", []api.Rule{up}, some("up", 0, 64), 0},
		{"two more", []api.Rule{up, sudden("x")}, some("up", 0, 62), 64},
		{"two, one of them too many", []api.Rule{up, sudden("x")}, some("up", 0, 63), 0},
		{"one that is there", []api.Rule{up}, append(some("up", 0, 63), firing("up", 0, 2)), 64},
		{"one that comes, and then one that goes", []api.Rule{up, down}, append([]api.Alert{leaves}, some("up", 0, 63)...), 64},
		{"one that goes, and then one that comes", []api.Rule{down, up}, append([]api.Alert{leaves}, some("up", 0, 63)...), 64},
		{"two that come, and then one that goes", []api.Rule{up, sudden("x"), down}, append([]api.Alert{leaves}, some("up", 0, 63)...), 0},
		{"one that goes, and then two that come", []api.Rule{down, up, sudden("x")}, append([]api.Alert{leaves}, some("up", 0, 63)...), 0},
		{"none, for it is another metric's", []api.Rule{up, {Name: "x", Metric: "other", How: api.CAbove, Tries: 1}}, some("up", 0, 63), 64},
	} {
		if !Right(c.l, c.a) {
			t.Fatal(c.what)
		}
		got := take(c.l, c.a, of(6), 0)
		if c.want == 0 {
			got.refused(t, c.what, api.ErrFull)
		} else if got.e != api.OK || len(got.alerts) != c.want {
			t.Errorf("%s: %d, %d", c.what, len(got.alerts), got.e)
		}
		if got := take(c.l, c.a, of(0), 0); got.e != api.OK { // nothing comes
			t.Errorf("%s: %d", c.what, got.e)
		}
	}
	full := some("up", 0, 64)
	take([]api.Rule{up}, full, of(5), 0).is(t, "none of these labels", answer{full, nil, api.OK})
	sixteen := make([]api.Rule, 16)
	for i := range sixteen {
		sixteen[i] = sudden(fmt.Sprintf("r%02d", i))
	}
	if got := take(sixteen, some("r00", 0, 48), of(6), 0); got.e != api.OK || len(got.alerts) != 64 || len(got.changes) != 16 {
		t.Errorf("sixteen more: %v", got)
	}
	take(sixteen, some("r00", 0, 49), of(6), 0).refused(t, "sixteen, one of them too many", api.ErrFull)
}

// trueStep is what comes of an alert, of State 0, if there is none, of a rule, by what the document says.
func trueStep(r api.Rule, x api.Alert, fires bool, now int) (api.Alert, []api.Change) {
	none := api.Alert{}
	change := func(fires bool) []api.Change { return []api.Change{{Labels: x.Labels, Fires: fires}} }
	if fires {
		if x.State == api.SPending {
			x.Tries++
			if x.Tries == 11 {
				x.Tries = 10
			}
		}
		if x.State == 0 {
			x.State, x.Since, x.Tries = api.SPending, now, 1
		}
		if x.State == api.SKept {
			x.State, x.Ended = api.SFiring, 0
		}
		if x.State == api.SPending && x.Tries >= r.Tries && now-x.Since >= r.For {
			x.State = api.SFiring
			return x, change(true)
		}
		return x, nil
	}
	if x.State == api.SPending || x.State == 0 {
		return none, nil
	}
	if x.State == api.SFiring {
		x.State, x.Ended = api.SKept, now
	}
	if now-x.Ended >= r.Keep {
		return none, change(false)
	}
	return x, nil
}

// P14.2: an alert in each state, by rules of small numbers, held against what the document says.
func TestTakeStep(t *testing.T) {
	for n := range 4 * 4 * 5 * 11 {
		r := rule("a")
		r.For, r.Keep, r.Tries = n%4, n/4%4, []int{1, 2, 3, 9, 10}[n/16%5]
		tries := n / 80
		now := 6
		alerts := []api.Alert{{Rule: "a", Labels: pairs("alert", "a")}}
		for since := range now + 1 {
			if tries == 0 {
				break
			}
			alerts = append(alerts, pending("a", since, tries), firing("a", since, tries))
			for ended := since; ended <= now; ended++ {
				alerts = append(alerts, kept("a", since, tries, ended))
			}
		}
		for _, x := range alerts {
			for _, value := range []int{5, 6} {
				var a []api.Alert
				if x.State != 0 {
					a = []api.Alert{x}
				}
				want := answer{}
				left, changes := trueStep(r, x, value == 6, now)
				if left.State != 0 {
					want.alerts = []api.Alert{left}
				}
				want.changes = changes
				take([]api.Rule{r}, a, of(value), now).is(t, fmt.Sprint(r, a, value), want)
			}
		}
	}
}

// moment is a sample's value at a time, or time alone, and what must come of it.
type moment struct {
	now   int
	value int // or `alone`
	state int // 0, if there is no alert then
	tries int
	since int
	ended int
	fires string // `on` or `off`, if that changes
}

// alone is that there is no sample.
const alone = math.MinInt

// goes has moments follow one another.
func goes(t *testing.T, what string, r api.Rule, moments ...moment) {
	t.Helper()
	var a []api.Alert
	for _, m := range moments {
		var want answer
		if m.state != 0 {
			want.alerts = []api.Alert{{Rule: r.Name, Labels: pairs("alert", r.Name), State: m.state, Since: m.since, Tries: m.tries, Ended: m.ended}}
		}
		switch m.fires {
		case "on":
			want.changes = on(r.Name)
		case "off":
			want.changes = off(r.Name)
		}
		got := pass([]api.Rule{r}, a, m.now)
		if m.value != alone {
			got = take([]api.Rule{r}, a, of(m.value), m.now)
		}
		got.is(t, fmt.Sprint(what, " at ", m.now), want)
		a = got.alerts
	}
}

// P14.2, P14.3: alerts by hand, from their beginning to their end. The first one is the document's example.
func TestTakeByHand(t *testing.T) {
	r := rule("a")
	r.For, r.Tries = 5, 1
	goes(t, "for 5", r,
		moment{0, 6, api.SPending, 1, 0, 0, ""},
		moment{3, 6, api.SPending, 2, 0, 0, ""},
		moment{5, 6, api.SFiring, 3, 0, 0, "on"},
		moment{6, 6, api.SFiring, 3, 0, 0, ""})
	goes(t, "time alone fires nothing", r,
		moment{0, 6, api.SPending, 1, 0, 0, ""},
		moment{5, alone, api.SPending, 1, 0, 0, ""},
		moment{100, alone, api.SPending, 1, 0, 0, ""},
		moment{100, 6, api.SFiring, 2, 0, 0, "on"},
		moment{most, alone, api.SFiring, 2, 0, 0, ""})
	goes(t, "not in a row", r,
		moment{0, 6, api.SPending, 1, 0, 0, ""},
		moment{4, 5, 0, 0, 0, 0, ""},
		moment{5, 6, api.SPending, 1, 5, 0, ""},
		moment{9, 6, api.SPending, 2, 5, 0, ""},
		moment{10, 6, api.SFiring, 3, 5, 0, "on"})
	goes(t, "kept", r,
		moment{0, 6, api.SPending, 1, 0, 0, ""},
		moment{5, 6, api.SFiring, 2, 0, 0, "on"},
		moment{7, 5, api.SKept, 2, 0, 7, ""},
		moment{9, 5, api.SKept, 2, 0, 7, ""},
		moment{16, alone, api.SKept, 2, 0, 7, ""},
		moment{16, 6, api.SFiring, 2, 0, 0, ""},
		moment{16, 5, api.SKept, 2, 0, 16, ""},
		moment{25, 5, api.SKept, 2, 0, 16, ""},
		moment{26, 5, 0, 0, 0, 0, "off"},
		moment{26, 5, 0, 0, 0, 0, ""},
		moment{26, 6, api.SPending, 1, 26, 0, ""},
		moment{31, 6, api.SFiring, 2, 26, 0, "on"},
		moment{31, 5, api.SKept, 2, 26, 31, ""},
		moment{41, alone, 0, 0, 0, 0, "off"},
		moment{42, alone, 0, 0, 0, 0, ""})
	goes(t, "kept longer than it is kept, for no time went on", r,
		moment{0, 6, api.SPending, 1, 0, 0, ""},
		moment{5, 6, api.SFiring, 2, 0, 0, "on"},
		moment{7, 5, api.SKept, 2, 0, 7, ""},
		moment{100, 6, api.SFiring, 2, 0, 0, ""})
	goes(t, "at once, and for no time", sudden("a"),
		moment{3, 6, api.SFiring, 1, 3, 0, "on"},
		moment{3, 6, api.SFiring, 1, 3, 0, ""},
		moment{3, 5, 0, 0, 0, 0, "off"},
		moment{3, 6, api.SFiring, 1, 3, 0, "on"},
		moment{4, 5, 0, 0, 0, 0, "off"})
	r = sudden("a")
	r.Tries = 3
	goes(t, "three times, at one time", r,
		moment{7, 6, api.SPending, 1, 7, 0, ""},
		moment{7, 6, api.SPending, 2, 7, 0, ""},
		moment{7, 6, api.SFiring, 3, 7, 0, "on"},
		moment{7, 6, api.SFiring, 3, 7, 0, ""})
	r.For, r.Tries = 100, 10
	var many []moment
	for i := range 100 {
		many = append(many, moment{i, 6, api.SPending, min(i+1, 10), 0, 0, ""})
	}
	goes(t, "no more than ten", r, append(many,
		moment{100, 6, api.SFiring, 10, 0, 0, "on"},
		moment{101, 5, 0, 0, 0, 0, "off"})...)
	r.For, r.Keep, r.Tries = most, most, 2
	goes(t, "all ticks", r,
		moment{0, 6, api.SPending, 1, 0, 0, ""},
		moment{most - 1, 6, api.SPending, 2, 0, 0, ""},
		moment{most, 6, api.SFiring, 3, 0, 0, "on"},
		moment{most, 5, api.SKept, 3, 0, most, ""},
		moment{most, alone, api.SKept, 3, 0, most, ""})
}

// P14.2: which rules, and which alerts, a sample comes to, and in which order what changes is told.
func TestTakeRules(t *testing.T) {
	l := []api.Rule{sudden("d"), sudden("b"), sudden("a"), sudden("c")}
	l[2].Metric = "other"
	take(l, nil, of(6), 3).is(t, "all rise", answer{[]api.Alert{firing("b", 3, 1), firing("c", 3, 1), firing("d", 3, 1)}, on("d", "b", "c"), api.OK})
	a := []api.Alert{firing("a", 0, 1), firing("b", 1, 1), kept("c", 2, 1, 3), pending("d", 3, 1)}
	take(l, a, of(5), 4).is(t, "all end", answer{a[:1], off("b", "c"), api.OK})
	l[1].How = api.CTo
	take(l, a, of(6), 4).is(t, "some rise", answer{
		[]api.Alert{a[0], firing("c", 2, 1), firing("d", 3, 2)},
		append(on("d"), off("b")...), api.OK})
	l[1].Keep = 1
	take(l, a, of(6), 4).is(t, "one is kept", answer{[]api.Alert{a[0], kept("b", 1, 1, 4), firing("c", 2, 1), firing("d", 3, 2)}, on("d"), api.OK})
	take(l, a, api.Sample{Metric: "other", Value: 5}, 4).is(t, "the other metric", answer{a[1:], off("a"), api.OK})
	take(l, a, api.Sample{Metric: "third", Value: 6}, 4).is(t, "no rule's", answer{a, nil, api.OK})
	take(l, a, api.Sample{Metric: "d", Value: 6}, 4).is(t, "a rule's name", answer{a, nil, api.OK})
	take(nil, nil, of(6), 4).is(t, "no rules", answer{})
	take(l, a, of(5, "job", "x"), 100).is(t, "other labels, which all fire by b alone", answer{
		[]api.Alert{a[0], with(firing("b", 100, 1), func(x *api.Alert) { x.Labels = pairs("alert", "b", "job", "x") }), a[1], a[2], a[3]},
		[]api.Change{{Labels: pairs("alert", "b", "job", "x"), Fires: true}}, api.OK})
}

// P14.2: an alert's labels are the sample's, the rule's over them, and the rule's name over all.
func TestTakeLabels(t *testing.T) {
	r := sudden("a")
	r.Labels = pairs("sev", "hi", "t", "1")
	other := sudden("b")
	for _, c := range []struct{ said, a, b []string }{
		{nil, []string{"alert", "a", "sev", "hi", "t", "1"}, []string{"alert", "b"}},
		{[]string{"alert", "b"}, []string{"alert", "a", "sev", "hi", "t", "1"}, []string{"alert", "b"}},
		{[]string{"A", "x", "alert", "z", "sev", "lo"}, []string{"A", "x", "alert", "a", "sev", "hi", "t", "1"}, []string{"A", "x", "alert", "b", "sev", "lo"}},
		{[]string{"s", "\"\\", "u", " "}, []string{"alert", "a", "s", "\"\\", "sev", "hi", "t", "1", "u", " "}, []string{"alert", "b", "s", "\"\\", "u", " "}},
	} {
		ofA := with(firing("a", 2, 1), func(x *api.Alert) { x.Labels = pairs(c.a...) })
		ofB := with(firing("b", 2, 1), func(x *api.Alert) { x.Labels = pairs(c.b...) })
		both := []api.Alert{ofA, ofB}
		changes := []api.Change{{Labels: ofB.Labels, Fires: true}, {Labels: ofA.Labels, Fires: true}}
		l := []api.Rule{other, r}
		take(l, nil, of(6, c.said...), 2).is(t, "they come", answer{both, changes, api.OK})
		take(l, both, of(6, c.said...), 3).is(t, "they stay", answer{both, nil, api.OK})
		changes[0].Fires, changes[1].Fires = false, false
		take(l, both, of(5, c.said...), 3).is(t, "they go", answer{nil, changes, api.OK})
		take(l, both, of(5, append(c.said, "zz", "1")...), 3).is(t, "others go", answer{both, nil, api.OK})
	}
}

// P14.2: where a new alert stands among those that are there: by its rule, and then by its labels' text.
func TestTakePlace(t *testing.T) {
	values := []string{"1!", "1", "10", "2", "A", "\"", "\"\\", "\\", "a b", "a", "a,", "b"}
	l := these("b", "a", "c")
	l[0].Tries, l[0].For = 1, 0
	var all []api.Alert
	for _, value := range values {
		all = append(all, with(firing("b", 4, 1), func(x *api.Alert) { x.Labels = pairs("alert", "b", "n", value) }))
	}
	all = append([]api.Alert{firing("a", 0, 1)}, append(all, firing("b", 4, 1), firing("c", 0, 1))...)
	if !Right(l, all) {
		t.Fatal(all)
	}
	for i, x := range all[1 : len(all)-1] {
		a := slices.Delete(slices.Clone(all), i+1, i+2)
		s := of(6)
		s.Labels = x.Labels[1:]
		got := take(l[:1], a[:0], s, 4)
		got.is(t, "alone", answer{[]api.Alert{x}, []api.Change{{Labels: x.Labels, Fires: true}}, api.OK})
		l[1].Metric, l[2].Metric = "other", "other"
		take(l, a, s, 4).is(t, fmt.Sprint("at ", i+1), answer{all, []api.Change{{Labels: x.Labels, Fires: true}}, api.OK})
	}
}
