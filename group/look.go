package group

import (
	"slices"

	"transhipment/api"
	"transhipment/hours"
)

// look is a group that is looked at, with its route, at a time: the texts of what fires, and of what was told, and ended.
type look struct {
	group  api.Group
	route  api.Route
	now    int
	firing []string
	ended  []string
}

func lookAt(x api.Group, r api.Route, quiet []string, now int) look {
	l := look{group: x, route: r, now: now}
	for _, m := range x.Members {
		text := textOf(m.Labels)
		switch {
		case m.Ends && slices.Contains(x.Told, text):
			l.ended = append(l.ended, text)
		case !m.Ends && !slices.Contains(quiet, text):
			l.firing = append(l.firing, text)
		}
	}
	return l
}

// tells tells whether there is something to tell, if the group is not muted.
func (l look) tells() bool {
	isNew := func(text string) bool { return !slices.Contains(l.group.Told, text) }
	return slices.ContainsFunc(l.firing, isNew) || len(l.ended) > 0 ||
		len(l.firing) > 0 && l.now-l.group.At >= l.route.Repeat
}

func (l look) note() api.Note {
	return api.Note{
		Receiver: l.route.Receiver,
		Path:     l.group.Path,
		Key:      textOf(l.group.Key),
		Firing:   l.firing,
		Ended:    l.ended,
		At:       l.now,
	}
}

// done is the group behind the look, and the note, if it tells one.
func (l look) done(muted bool) (api.Group, []api.Note) {
	x := l.group
	var notes []api.Note
	if !muted && l.tells() {
		notes = append(notes, l.note())
		x.Told, x.At = slices.Clone(l.firing), l.now
	}
	if !muted { // where nothing is told, no member that ends was told either, so none has an end left to tell
		x.Members = slices.DeleteFunc(slices.Clone(x.Members), ends)
	}
	x.Next = later(l.now, l.route.Every)
	return x, notes
}

// muted tells whether a time is within one of some hours, of those that are named.
func muted(l []api.Hours, names []string, now int) bool {
	mutes := func(h api.Hours) bool { return slices.Contains(names, h.Name) && hours.In(h, now) }
	return slices.ContainsFunc(l, mutes)
}

func ends(m api.Member) bool { return m.Ends }
