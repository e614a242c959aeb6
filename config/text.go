package config

import (
	"transhipment/api"
	"transhipment/frame"
	"transhipment/hours"
	"transhipment/matcher"
	"transhipment/rules"
	"transhipment/seal"
)

// Text is a configuration's text, that of its normal form.
func Text(c api.Config) (string, api.Errno) {
	n, e := Normal(c)
	if e != api.OK {
		return "", e
	}
	b := binder{}
	text := b.bind(
		b.bind(ruleWords(n.Rules)...),
		b.bind(n.Receivers...),
		b.bind(hoursTexts(n.Hours)...),
		b.bind(each(n.Inhibits, inhibitText)...),
		b.route(n.Route),
	)
	if b.fault != api.OK {
		return "", b.fault
	}
	return text, api.OK
}

// Mark is the mark of a configuration's text.
func Mark(c api.Config) (string, api.Errno) {
	text, e := Text(c)
	if e != api.OK {
		return "", e
	}
	return seal.Mark(text), api.OK
}

// binder binds texts in texts. A fault stays, so that it is asked once, behind all of them.
type binder struct{ fault api.Errno }

func (b *binder) bind(parts ...string) string {
	bound, e := frame.Bind(parts...)
	if e != api.OK {
		b.fault = e
	}
	return bound
}

// route is a route's text.
func (b *binder) route(r api.Route) string {
	on := "0"
	if r.On {
		on = "1"
	}
	return b.bind(
		r.Receiver,
		b.bind(each(r.Match, matcherText)...),
		b.bind(r.By...),
		b.bind(r.Mute...),
		number(r.Wait),
		number(r.Every),
		number(r.Repeat),
		on,
		b.bind(each(r.Routes, b.route)...),
	)
}

// inhibitText is an inhibit's text. There is no fault: not even eight matchers have too long a text.
func inhibitText(x api.Inhibit) string {
	b := binder{}
	return b.bind(
		b.bind(each(x.Source, matcherText)...),
		b.bind(each(x.Target, matcherText)...),
		b.bind(x.Equal...),
	)
}

// ruleWords are the words of rules, rule by rule.
func ruleWords(l []api.Rule) []string {
	var all []string
	for _, r := range l {
		words, _ := rules.Words(r) // no error, for all of them may be
		all = append(all, words...)
	}
	return all
}

// hoursTexts are the names and texts of hours, one behind the other.
func hoursTexts(l []api.Hours) []string {
	var all []string
	for _, h := range l {
		text, _ := hours.Text(h) // no error, for all of them may be
		all = append(all, h.Name, text)
	}
	return all
}

// matcherText is the text of a matcher that may be.
func matcherText(m api.Matcher) string {
	text, _ := matcher.Text(m)
	return text
}

// number is the bytes of a number that a route that may be has.
func number(n int) string {
	bytes, _ := frame.Number(n)
	return bytes
}
