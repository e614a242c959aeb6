package group

import (
	"slices"
	"strings"

	"transhipment/api"
	"transhipment/label"
)

// row is things with a closure that tells the name of each, by which they rise.
type row[T any] struct {
	things []T
	name   func(T) string
}

// groupsOf is a row of groups. A byte 0 parts the path from the key, for it is below all that a path has: so a path is below those that it begins.
func groupsOf(g []api.Group) row[api.Group] {
	return row[api.Group]{g, func(x api.Group) string { return x.Path + "\x00" + textOf(x.Key) }}
}

func membersOf(l []api.Member) row[api.Member] {
	return row[api.Member]{l, func(m api.Member) string { return textOf(m.Labels) }}
}

func textsOf(l []string) row[string] {
	return row[string]{l, func(text string) string { return text }}
}

// rise tells whether each thing's name is above that of the one ahead of it, byte by byte.
func rise[T any](r row[T]) bool {
	last := ""
	for i, x := range r.things {
		name := r.name(x)
		if i > 0 && last >= name {
			return false
		}
		last = name
	}
	return true
}

// place is where a thing of a row that rises stands by its name, or would stand; whether there is one of that name.
func (r row[T]) place(x T) (int, bool) {
	order := func(other T, name string) int { return strings.Compare(r.name(other), name) }
	return slices.BinarySearchFunc(r.things, r.name(x), order)
}

// with is the row's things with one in its place, whether one of its name stood there or not, in new memory.
func (r row[T]) with(x T) []T {
	at, there := r.place(x)
	behind := at
	if there {
		behind++
	}
	return slices.Concat(r.things[:at], []T{x}, r.things[behind:])
}

// textOf is the text of labels that may be.
func textOf(l []api.Label) string {
	text, _ := label.Text(l) // no error then
	return text
}
