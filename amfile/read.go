package amfile

import (
	"strconv"

	"transhipment/api"
	"transhipment/hours"
	"transhipment/matcher"
)

// readNode is the configuration of a node, or the error that was panicked where it is not as it must be.
func readNode(n api.Node) (c api.Config, e api.Errno) {
	defer func() {
		if fault := recover(); fault != nil {
			e = fault.(api.Errno) // nothing else is panicked here
		}
	}()
	return readMap(readConfig)(n), api.OK
}

// must panics, if a node is not as it must be.
func must(holds bool) {
	if !holds {
		panic(api.ErrSchema)
	}
}

// readConfig reads the entries of a configuration. Here, as in all such, Go makes the calls in the order in which they stand, so that is the order of the entries.
func readConfig(rest *api.Node) api.Config {
	c := api.Config{
		Route:     next(rest, "route", readMap(readRoute)),
		Receivers: next(rest, "receivers", readRow(readWord)),
		Inhibits:  next(rest, "inhibit_rules", readRow(readMap(readInhibit))),
		Hours:     next(rest, "time_intervals", readRow(readMap(readHours))),
	}
	must(Holds(c))
	return c
}

func readRoute(rest *api.Node) api.Route {
	return api.Route{
		Receiver: next(rest, "receiver", readWord),
		Match:    next(rest, "matchers", readRow(readMatcher)),
		By:       next(rest, "group_by", readRow(readWord)),
		Wait:     next(rest, "group_wait", readNumber),
		Every:    next(rest, "group_interval", readNumber),
		Repeat:   next(rest, "repeat_interval", readNumber),
		Mute:     next(rest, "mute", readRow(readWord)),
		On:       next(rest, "continue", readOn),
		Routes:   next(rest, "routes", readRow(readMap(readRoute))),
	}
}

func readInhibit(rest *api.Node) api.Inhibit {
	return api.Inhibit{
		Source: next(rest, "source", readRow(readMatcher)),
		Target: next(rest, "target", readRow(readMatcher)),
		Equal:  next(rest, "equal", readRow(readWord)),
	}
}

func readHours(rest *api.Node) api.Hours {
	name, span := next(rest, "name", readWord), next(rest, "span", readWord)
	h, e := hours.Parse(span)
	must(e == api.OK)
	h.Name = name
	return h
}

func readMatcher(n api.Node) api.Matcher {
	m, e := matcher.Parse(readWord(n))
	must(e == api.OK)
	return m
}

// readNumber reads a number that is written as numbers are. Whether it may be is asked of the whole configuration.
func readNumber(n api.Node) int {
	word := readWord(n)
	number, wrong := strconv.Atoi(word)
	must(wrong == nil && strconv.Itoa(number) == word)
	return number
}

func readOn(n api.Node) bool {
	word := readWord(n)
	must(word == "true" || word == "false")
	return word == "true"
}

func readWord(n api.Node) string {
	must(n.Kind == api.NWord)
	return n.Word
}

// readRow is a reader of rows, of which another reader reads each item.
func readRow[T any](read func(api.Node) T) func(api.Node) []T {
	return func(n api.Node) []T {
		must(n.Kind == api.NRow)
		var l []T
		for _, item := range n.Items {
			l = append(l, read(item))
		}
		return l
	}
}

// readMap is a reader of maps, whose entries another reader takes off, all of them.
func readMap[T any](read func(rest *api.Node) T) func(api.Node) T {
	return func(n api.Node) T {
		x := read(&n)
		must(len(n.Names) == 0)
		return x
	}
}

// next takes the next entry off the rest of a map, and is what a reader reads of it. What is no map has no entry.
func next[T any](rest *api.Node, name string, read func(api.Node) T) T {
	must(len(rest.Names) > 0 && rest.Names[0] == name)
	item := rest.Items[0]
	rest.Names, rest.Items = rest.Names[1:], rest.Items[1:]
	return read(item)
}
