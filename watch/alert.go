package watch

import (
	"slices"

	"transhipment/api"
)

// gone is the state of an alert that is not there.
const gone = 0

// alert is one that goes on, by its rule, at a time.
type alert api.Alert

// fires has an alert go on whose value fires.
func (x *alert) fires(r api.Rule, now int) {
	switch x.State {
	case gone:
		x.State, x.Since = api.SPending, now
		fallthrough // the one that begins fired once, and may change at once
	case api.SPending:
		x.Tries = min(x.Tries+1, mostTries)
		if x.Tries >= r.Tries && now-x.Since >= r.For {
			x.State = api.SFiring
		}
	case api.SKept:
		x.State, x.Ended = api.SFiring, 0
	}
}

// ends has an alert go on whose value does not fire.
func (x *alert) ends(r api.Rule, now int) {
	switch x.State {
	case api.SPending:
		x.State = gone
	case api.SFiring:
		x.State, x.Ended = api.SKept, now
		fallthrough // a rule may keep it for no time
	case api.SKept:
		x.rests(r, now)
	}
}

// rests has an alert go on for which there is no value: one that was kept long enough goes.
func (x *alert) rests(r api.Rule, now int) {
	if x.State == api.SKept && now-x.Ended >= r.Keep {
		x.State = gone
	}
}

// told tells whether an alert was told to fire, and not yet to do so no more.
func (x alert) told() bool { return x.State == api.SFiring || x.State == api.SKept }

// watched are alerts that go on, at a time, and what changed.
type watched struct {
	alerts  []api.Alert
	changes []api.Change
	now     int
}

// goOn has the alert of a rule and labels go on by what happens to it, though it is not there yet, or no more then.
func (w *watched) goOn(r api.Rule, labels []api.Label, happens func(*alert, api.Rule, int)) {
	x := alert{Rule: r.Name, Labels: labels, State: gone}
	from, there := slices.BinarySearchFunc(w.alerts, api.Alert(x), order)
	to := from
	if there {
		x = alert(w.alerts[from])
		to++
	}
	told := x.told()
	happens(&x, r, w.now)
	if x.told() != told {
		w.changes = append(w.changes, api.Change{Labels: slices.Clone(x.Labels), Fires: x.told()})
	}
	var left []api.Alert
	if x.State != gone {
		left = append(left, api.Alert(x))
	}
	w.alerts = slices.Replace(w.alerts, from, to, left...)
}
