package promfile

import (
	"strconv"
	"strings"

	"transhipment/api"
	"transhipment/label"
	"transhipment/outline"
	"transhipment/rules"
)

// said is what an item says under one of its names.
type said interface {
	// node is how it is written.
	node() api.Node
}

// phrase is some of a rule's words, parted by one blank each.
type phrase []string

// given is the labels that a rule gives.
type given []api.Label

func (x phrase) node() api.Node {
	return api.Node{Kind: api.NWord, Word: strings.Join(x, " ")}
}

func (x given) node() api.Node {
	row := api.Node{Kind: api.NRow}
	for _, l := range x {
		name, value := phrase{l.Name}, phrase{l.Value}
		row.Items = append(row.Items, inMap([]string{"name", "value"}, name, value))
	}
	return row
}

// inMap is a map of what is said under each name.
func inMap(names []string, says ...said) api.Node {
	n := api.Node{Kind: api.NMap, Names: names}
	for _, x := range says {
		n.Items = append(n.Items, x.node())
	}
	return n
}

// item is how a rule is written, that may be.
func item(r api.Rule) api.Node {
	words, _ := rules.Words(r) // no error, for it may be
	name, fires, long, keep := phrase(words[:1]), phrase(words[1:4]), phrase(words[4:5]), phrase(words[5:6])
	return inMap([]string{"alert", "expr", "for", "keep", "labels"}, name, fires, long, keep, given(r.Labels))
}

// read is the rule of an item. What takes the item apart need not be strict: an item that its rule is not written as is refused.
func read(x api.Node) (api.Rule, api.Errno) {
	var words []string
	for _, n := range x.Items {
		switch says := heard(n).(type) {
		case phrase:
			words = append(words, says...)
		case given:
			text, _ := label.Text(says)
			words = append(words, strconv.Itoa(onlyTries), text)
		}
	}
	r, e := rules.Read(words)
	if e != api.OK || !outline.Like(item(r), x) {
		return api.Rule{}, api.ErrSchema
	}
	return r, api.OK
}

// heard is what a node says; of a node that nothing is written as, it is something that is written in another way.
func heard(n api.Node) said {
	if n.Kind == api.NWord {
		return phrase(strings.Split(n.Word, " "))
	}
	var l given
	for _, x := range n.Items {
		name, _ := outline.Get(x, "name", api.NWord)
		value, _ := outline.Get(x, "value", api.NWord)
		l = append(l, api.Label{Name: name.Word, Value: value.Word})
	}
	return l
}
