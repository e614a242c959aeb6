package amfile

import (
	"strconv"

	"transhipment/api"
	"transhipment/hours"
	"transhipment/matcher"
)

// entry is a name of a map, and what stands there.
type entry struct {
	name string
	node api.Node
}

// writeConfig is how a configuration is written, as it stands.
func writeConfig(c api.Config) api.Node {
	return writeMap(
		entry{"route", writeRoute(c.Route)},
		entry{"receivers", writeRow(c.Receivers, writeWord)},
		entry{"inhibit_rules", writeRow(c.Inhibits, writeInhibit)},
		entry{"time_intervals", writeRow(c.Hours, writeHours)},
	)
}

func writeRoute(r api.Route) api.Node {
	return writeMap(
		entry{"receiver", writeWord(r.Receiver)},
		entry{"matchers", writeRow(r.Match, writeMatcher)},
		entry{"group_by", writeRow(r.By, writeWord)},
		entry{"group_wait", writeNumber(r.Wait)},
		entry{"group_interval", writeNumber(r.Every)},
		entry{"repeat_interval", writeNumber(r.Repeat)},
		entry{"mute", writeRow(r.Mute, writeWord)},
		entry{"continue", writeWord(strconv.FormatBool(r.On))},
		entry{"routes", writeRow(r.Routes, writeRoute)},
	)
}

func writeInhibit(x api.Inhibit) api.Node {
	return writeMap(
		entry{"source", writeRow(x.Source, writeMatcher)},
		entry{"target", writeRow(x.Target, writeMatcher)},
		entry{"equal", writeRow(x.Equal, writeWord)},
	)
}

func writeHours(h api.Hours) api.Node {
	text, _ := hours.Text(h) // no error, for they may be
	return writeMap(
		entry{"name", writeWord(h.Name)},
		entry{"span", writeWord(text)},
	)
}

func writeMatcher(m api.Matcher) api.Node { return writeWord(matcherText(m)) }

// matcherText is the text of a matcher that may be.
func matcherText(m api.Matcher) string {
	text, _ := matcher.Text(m)
	return text
}

func writeNumber(n int) api.Node { return writeWord(strconv.Itoa(n)) }

func writeWord(word string) api.Node { return api.Node{Kind: api.NWord, Word: word} }

// writeRow is the row of what a function writes of each thing of a list.
func writeRow[T any](l []T, write func(T) api.Node) api.Node {
	n := api.Node{Kind: api.NRow}
	for _, x := range l {
		n.Items = append(n.Items, write(x))
	}
	return n
}

// writeMap is the map of entries, in their order.
func writeMap(entries ...entry) api.Node {
	n := api.Node{Kind: api.NMap}
	for _, x := range entries {
		n.Names = append(n.Names, x.name)
		n.Items = append(n.Items, x.node)
	}
	return n
}
