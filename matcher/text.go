package matcher

import (
	"strings"

	"transhipment/api"
)

// Text is a matcher's text.
func Text(m api.Matcher) (string, api.Errno) {
	if !Right(m) {
		return "", api.ErrArg
	}
	return m.Name + signs()[m.How].text + `"` + strings.Join(m.Words, "|") + `"`, api.OK
}

// Parse is the matcher of a text.
func Parse(s string) (api.Matcher, api.Errno) {
	head, quoted, opened := strings.Cut(s, `"`)
	words, closed := strings.CutSuffix(quoted, `"`)
	at := strings.IndexAny(head, "=!") // neither may be in a name
	if !opened || !closed || at < 0 {
		return api.Matcher{}, api.ErrSyntax
	}
	m := api.Matcher{
		Name:  head[:at],
		How:   howOf(head[at:]),
		Words: strings.SplitN(words, "|", api.MaxLabels+1), // one too many is enough to refuse it
	}
	if !Right(m) {
		return api.Matcher{}, api.ErrSyntax
	}
	return m, api.OK
}

// howOf is the How that is written so; 0, which may not be, if there is none.
func howOf(text string) int {
	for how, sign := range signs() { // in any order, for no two are written the same
		if sign.text == text {
			return how
		}
	}
	return 0
}
