package nagfile

import (
	"strconv"

	"transhipment/api"
	"transhipment/hours"
	"transhipment/rules"
)

// The types of blocks.
const (
	ofHours    = "timeperiod"
	ofReceiver = "contact"
	ofRoute    = "notify"
	ofRule     = "service"
)

// The keys of lists begin so, and end by a number.
const (
	periodKey = "period_"
	labelKey  = "label_"
)

// The places of a rule's words that have one here; the name and the metric are ahead of them.
const (
	signWord  = 2
	limitWord = 3
	triesWord = 6
)

// writeConfig is how a configuration is written, as it stands.
func writeConfig(c api.Config) []api.Def {
	var l []api.Def
	for _, h := range c.Hours {
		l = append(l, writeHours(h))
	}
	for _, receiver := range c.Receivers {
		l = append(l, writeReceiver(receiver))
	}
	l = append(l, writeRoute(c.Route))
	for _, r := range c.Rules {
		l = append(l, writeRule(r))
	}
	return l
}

func writeHours(h api.Hours) api.Def {
	text, _ := hours.Text(h) // no error, for they may be
	return api.Def{Type: ofHours, Keys: []string{"name", "span"}, Values: []string{h.Name, text}}
}

func writeReceiver(receiver string) api.Def {
	return api.Def{Type: ofReceiver, Keys: []string{"name"}, Values: []string{receiver}}
}

func writeRoute(r api.Route) api.Def {
	d := api.Def{
		Type:   ofRoute,
		Keys:   []string{"contact", "wait", "every", "repeat"},
		Values: []string{r.Receiver, strconv.Itoa(r.Wait), strconv.Itoa(r.Every), strconv.Itoa(r.Repeat)},
	}
	return withList(d, periodKey, r.Mute)
}

func writeRule(r api.Rule) api.Def {
	words, _ := rules.Words(r) // no error, for it may be
	d := api.Def{
		Type:   ofRule,
		Keys:   []string{"name", "metric", "check", "limit", "attempts"},
		Values: []string{r.Name, r.Metric, words[signWord], words[limitWord], words[triesWord]},
	}
	var labels []string
	for _, x := range r.Labels {
		labels = append(labels, x.Name+"="+x.Value)
	}
	return withList(d, labelKey, labels)
}

// withList is a block with a key more for each value of a list.
func withList(d api.Def, key string, values []string) api.Def {
	for i, value := range values {
		d.Keys = append(d.Keys, key+strconv.Itoa(i))
		d.Values = append(d.Values, value)
	}
	return d
}
