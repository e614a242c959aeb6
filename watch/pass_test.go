package watch

import (
	"fmt"
	"math"
	"slices"
	"testing"

	"transhipment/api"
)

// P14.1: times that may be, and alerts that are ahead of them.
func TestPassErrors(t *testing.T) {
	l := these("a", "b", "c")
	for _, now := range []int{math.MinInt, -most, -1, most + 1, 2 * most, math.MaxInt} {
		for _, a := range [][]api.Alert{nil, {firing("a", 0, 1)}, {firing("a", most, 1)}, {kept("b", 0, 1, most)}} {
			pass(l, a, now).refused(t, "no time", api.ErrArg)
			take(l, a, of(6), now).refused(t, "no time", api.ErrArg)
			take(l, a, api.Sample{}, now).refused(t, "no time", api.ErrArg)
		}
	}
	for _, c := range []struct {
		x   api.Alert
		ago int // the least time that is not ahead of it
	}{
		{pending("b", 0, 1), 0},
		{pending("b", 7, 1), 7},
		{pending("b", most, 1), most},
		{firing("b", 7, 1), 7},
		{firing("b", most, 1), most},
		{kept("b", 7, 1, 7), 7},
		{kept("b", 7, 1, 9), 9},
		{kept("b", 0, 1, 1), 1},
		{kept("b", 0, 1, most), most},
		{kept("b", most, 1, most), most},
	} {
		for _, a := range [][]api.Alert{{c.x}, {firing("a", 0, 1), c.x, firing("c", 0, 1)}, {pending("a", 0, 1), c.x}} {
			for _, now := range []int{0, 1, 5, 6, 7, 8, 9, 10, most - 1, most} {
				want := api.OK
				if now < c.ago {
					want = api.ErrPast
				}
				if got := pass(l, a, now); got.e != want || want != api.OK && len(got.alerts)+len(got.changes) > 0 {
					t.Errorf("%v at %d: %v", a, now, got)
				}
				if got := take(l, a, of(6), now); got.e != want || want != api.OK && len(got.alerts)+len(got.changes) > 0 {
					t.Errorf("%v at %d: %v", a, now, got)
				}
				if want != api.OK { // it is told ahead of a sample that may not be
					take(l, a, api.Sample{}, now).refused(t, "past", api.ErrPast)
				}
			}
		}
	}
}

// P14.1: which alerts go as time goes on: those that were kept for as long as their rule says, or longer, in order.
func TestPass(t *testing.T) {
	l := these("c", "a", "d", "b")
	l[0].Keep, l[1].Keep, l[2].Keep, l[3].Keep = 0, 10, most, 3
	all := []api.Alert{kept("a", 2, 3, 20), kept("b", 1, 1, 20), kept("c", 20, 10, 20), kept("d", 0, 2, 20)}
	for _, c := range []struct {
		now    int
		left   []api.Alert
		change []api.Change
	}{
		{20, []api.Alert{all[0], all[1], all[3]}, off("c")},
		{22, []api.Alert{all[0], all[1], all[3]}, off("c")},
		{23, []api.Alert{all[0], all[3]}, off("b", "c")},
		{29, []api.Alert{all[0], all[3]}, off("b", "c")},
		{30, []api.Alert{all[3]}, off("a", "b", "c")},
		{most, []api.Alert{all[3]}, off("a", "b", "c")},
	} {
		pass(l, all, c.now).is(t, fmt.Sprint("at ", c.now), answer{c.left, c.change, api.OK})
	}
	pass(these("a"), nil, 0).is(t, "none", answer{})
	pass(nil, nil, most).is(t, "no rules", answer{})
	l[2].Keep = most - 20
	pass(l, all, most).is(t, "at the last tick", answer{nil, off("a", "b", "c", "d"), api.OK})
	l[2].Keep++
	pass(l, all, most).is(t, "one less than it", answer{all[3:], off("a", "b", "c"), api.OK})
	l[2].Keep = most
	pass(l, []api.Alert{kept("d", 0, 1, 0)}, most).is(t, "all ticks", answer{nil, off("d"), api.OK})
	pass(l, []api.Alert{kept("d", 0, 1, 0)}, most-1).is(t, "all but one", answer{[]api.Alert{kept("d", 0, 1, 0)}, nil, api.OK})
}

// P14.1: alerts that are not kept stay as they are, whatever their rules say, and however long.
func TestPassOthers(t *testing.T) {
	for _, keep := range []int{0, 1, 10, most} {
		for _, tries := range []int{1, 2, 10} {
			l := []api.Rule{rule("a"), sudden("b"), rule("c"), sudden("d")}
			for i := range l {
				l[i].Keep, l[i].Tries = keep, tries
			}
			a := []api.Alert{pending("a", 0, 10), pending("b", 3, 1), firing("c", 0, 1), firing("d", 3, 10)}
			for _, now := range []int{3, 4, 5, 100, most} {
				pass(l, a, now).is(t, fmt.Sprint("at ", now), answer{a, nil, api.OK})
			}
		}
	}
}

// P14.1: alerts of one rule go, each by its own end, and the labels that changed are all of theirs.
func TestPassLabels(t *testing.T) {
	var a []api.Alert
	for i, x := range some("a", 0, 64) {
		x.State, x.Ended = api.SKept, i%8
		a = append(a, x)
	}
	for now := 7; now < 30; now++ {
		var want answer
		for i, x := range a {
			if now-i%8 >= 10 {
				want.changes = append(want.changes, api.Change{Labels: x.Labels})
			} else {
				want.alerts = append(want.alerts, x)
			}
		}
		pass(these("a"), a, now).is(t, fmt.Sprint("at ", now), want)
	}
}

// R4: no list that is handed in is changed, nor what lies behind its end; R1: the same answer comes again.
func TestUnchanged(t *testing.T) {
	l := []api.Rule{rule("c"), sudden("a"), rule("b"), {Name: "e", Metric: "m", How: api.CTo, Limit: 5, Tries: 1, Labels: pairs("sev", "hi")}}
	a := []api.Alert{kept("a", 1, 1, 2), pending("b", 1, 1), firing("c", 1, 1)}
	sample := of(6, "alert", "x", "sev", "lo")
	spare := pending("spare", 9, 9)
	for _, value := range []int{5, 6} {
		for _, said := range [][]string{nil, {"alert", "x", "sev", "lo"}} {
			sample.Value, sample.Labels = value, append(pairs(said...), api.Label{Name: "spare"})[:len(said)/2]
			rows, alerts := slices.Clone(l), append(slices.Clone(a), spare, spare, spare)
			shown := fmt.Sprint(rows, alerts, sample)
			for _, now := range []int{2, 12, 30} {
				first := take(rows, alerts[:3], sample, now)
				take(rows, alerts[:3], sample, now).is(t, "again", first)
				gone := pass(rows, alerts[:3], now)
				pass(rows, alerts[:3], now).is(t, "again", gone)
				Firing(alerts)
				Right(rows, alerts)
			}
			if got := fmt.Sprint(rows, alerts, sample); got != shown {
				t.Errorf("%s came to be %s", shown, got)
			}
			if last := sample.Labels[:len(said)/2+1]; last[len(said)/2].Name != "spare" {
				t.Errorf("behind the sample's labels is %v", last)
			}
		}
	}
}

// What changed has its labels for itself, and does not share them with the alerts beside it; nor do two that fire share any.
func TestAlone(t *testing.T) {
	alerts, changes, _ := Take([]api.Rule{sudden("a")}, nil, of(6, "x", "1"), 0)
	changes[0].Labels[0].Value = "other"
	if alerts[0].Labels[0].Value != "a" {
		t.Error("an alert shares its labels with its change")
	}
	x := firing("a", 0, 1)
	told := Firing([]api.Alert{x, x})
	told[0][0].Value = "other"
	if told[1][0].Value != "a" || x.Labels[0].Value != "a" {
		t.Error("alerts that fire share their labels")
	}
}
