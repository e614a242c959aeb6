package nagfile

import (
	"strconv"
	"strings"

	"transhipment/api"
	"transhipment/block"
	"transhipment/hours"
	"transhipment/label"
	"transhipment/routes"
	"transhipment/rules"
)

// reading is a configuration, as far as it was read.
type reading struct {
	config api.Config
}

// readAll reads blocks, and is the number of the first one that is not as it must be, or 0.
func (r *reading) readAll(blocks []api.Def) int {
	readers := r.readers()
	for i, d := range blocks {
		if read := readers[d.Type]; read == nil || !read(d) {
			return i + 1
		}
	}
	return 0
}

// readers are what reads a block, by its type. Each tells whether the block has its place, and is as it is written.
func (r *reading) readers() map[string]func(api.Def) bool {
	return map[string]func(api.Def) bool{
		ofHours:    r.readHours,
		ofReceiver: r.readReceiver,
		ofRoute:    r.readRoute,
		ofRule:     r.readRule,
	}
}

// routed tells whether the route was read: no other one has a place behind it, and nothing else but rules.
func (r *reading) routed() bool { return r.config.Route.Receiver != "" }

func (r *reading) readHours(d api.Def) bool {
	if r.routed() || len(r.config.Receivers) > 0 {
		return false
	}
	h, _ := hours.Parse(value(d, "span"))
	h.Name = value(d, "name")
	r.config.Hours = append(r.config.Hours, h)
	return like(d, writeHours(h)) // hours that may not be have no text, so no block is as theirs
}

func (r *reading) readReceiver(d api.Def) bool {
	receiver := value(d, "name")
	r.config.Receivers = append(r.config.Receivers, receiver)
	return !r.routed() && rightWord(receiver) && like(d, writeReceiver(receiver))
}

func (r *reading) readRoute(d api.Def) bool {
	if r.routed() {
		return false
	}
	r.config.Route = api.Route{
		Receiver: value(d, "contact"),
		Wait:     number(d, "wait"),
		Every:    number(d, "every"),
		Repeat:   number(d, "repeat"),
		Mute:     list(d, periodKey),
	}
	return routes.Right(r.config.Route) && like(d, writeRoute(r.config.Route))
}

func (r *reading) readRule(d api.Def) bool {
	if !r.routed() {
		return false
	}
	rule, e := rules.Read([]string{value(d, "name"), value(d, "metric"), value(d, "check"), value(d, "limit"), "0", "0", value(d, "attempts"), labels(d)})
	r.config.Rules = append(r.config.Rules, rule)
	return e == api.OK && like(d, writeRule(rule))
}

// labels is the text of a block's labels; it is empty, which is no text of a set, if they may not be.
func labels(d api.Def) string {
	var set []api.Label
	for _, x := range list(d, labelKey) {
		name, rest, _ := strings.Cut(x, "=")
		set = append(set, api.Label{Name: name, Value: rest})
	}
	text, _ := label.Text(set)
	return text
}

// like tells whether a block is just as another one, that is written.
func like(d, written api.Def) bool { return block.Like([]api.Def{d}, []api.Def{written}) }

// value is a key's value; it is empty, which none is that is written, if the block has no such key.
func value(d api.Def, key string) string {
	text, _ := block.Get(d, key)
	return text
}

// number is a key's number. What is none comes to be one that is not written so.
func number(d api.Def, key string) int {
	n, _ := strconv.Atoi(value(d, key))
	return n
}

// list are the values of the keys that begin so, by their numbers.
func list(d api.Def, key string) []string {
	var l []string
	for i := range d.Keys {
		text, e := block.Get(d, key+strconv.Itoa(i))
		if e != api.OK {
			break
		}
		l = append(l, text)
	}
	return l
}

// rightWord asks block of a block of that type, for it tells of whole blocks alone.
func rightWord(word string) bool { return block.Right([]api.Def{{Type: word}}) }
