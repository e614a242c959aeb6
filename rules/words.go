package rules

import (
	"slices"
	"strconv"

	"transhipment/api"
	"transhipment/label"
)

// The places of a rule's words, and how many there are.
const (
	nameWord = iota
	metricWord
	signWord
	limitWord
	forWord
	keepWord
	triesWord
	labelsWord
	manyWords
)

// Words are a rule's.
func Words(r api.Rule) ([]string, api.Errno) {
	if !Right(r) {
		return nil, api.ErrArg
	}
	labels, _ := label.Text(r.Labels) // no error, for they may be
	return []string{
		nameWord:   r.Name,
		metricWord: r.Metric,
		signWord:   hows()[r.How].sign,
		limitWord:  strconv.Itoa(r.Limit),
		forWord:    strconv.Itoa(r.For),
		keepWord:   strconv.Itoa(r.Keep),
		triesWord:  strconv.Itoa(r.Tries),
		labelsWord: labels,
	}, api.OK
}

// Read is the rule of its words. What reads one of them need not be strict: a rule that has other words is refused.
func Read(l []string) (api.Rule, api.Errno) {
	if len(l) != manyWords {
		return api.Rule{}, api.ErrSyntax
	}
	labels, _ := label.Parse(l[labelsWord])
	r := api.Rule{
		Name:   l[nameWord],
		Metric: l[metricWord],
		How:    howOf(l[signWord]),
		Limit:  number(l[limitWord]),
		For:    number(l[forWord]),
		Keep:   number(l[keepWord]),
		Tries:  number(l[triesWord]),
		Labels: labels,
	}
	if words, e := Words(r); e != api.OK || !slices.Equal(words, l) {
		return api.Rule{}, api.ErrSyntax
	}
	return r, api.OK
}

// howOf is the How of a sign; 0, which may not be, if there is none.
func howOf(sign string) int {
	for i, h := range hows() {
		if h.sign == sign {
			return i
		}
	}
	return 0
}

// number is what a text tells as digits; any other number, if it tells none.
func number(text string) int {
	n, _ := strconv.Atoi(text)
	return n
}
