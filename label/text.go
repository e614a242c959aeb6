package label

import (
	"strings"

	"transhipment/api"
)

// Text is a set's text.
func Text(l []api.Label) (string, api.Errno) {
	if !Right(l) {
		return "", api.ErrArg
	}
	text := []byte{'{'}
	for i, label := range l {
		if i > 0 {
			text = append(text, ',')
		}
		text = append(text, label.Name...)
		text = append(text, '=')
		text = appendQuoted(text, label.Value)
	}
	return string(append(text, '}')), api.OK
}

// appendQuoted has a value in quotes behind the bytes.
func appendQuoted(text []byte, value string) []byte {
	text = append(text, '"')
	for i := 0; i < len(value); i++ {
		if value[i] == '"' || value[i] == '\\' {
			text = append(text, '\\')
		}
		text = append(text, value[i])
	}
	return append(text, '"')
}

// Parse is the set of a text.
func Parse(s string) ([]api.Label, api.Errno) {
	rest, opened := strings.CutPrefix(s, "{")
	rest, closed := strings.CutSuffix(rest, "}")
	if !opened || !closed {
		return nil, api.ErrSyntax
	}
	var l []api.Label
	for rest != "" && len(l) <= api.MaxLabels { // one too many is enough to refuse it
		comma := ""
		if len(l) > 0 {
			comma = ","
		}
		label, behind, ok := readLabel(rest, comma)
		if !ok {
			return nil, api.ErrSyntax
		}
		l, rest = append(l, label), behind
	}
	if !Right(l) {
		return nil, api.ErrSyntax
	}
	return l, api.OK
}

// readLabel is the label that a text begins with, behind what is ahead of it, and the rest of the text. Whether the label may be is not asked here.
func readLabel(s, ahead string) (api.Label, string, bool) {
	s, parted := strings.CutPrefix(s, ahead)
	name, quoted, found := strings.Cut(s, `="`)
	if !parted || !found {
		return api.Label{}, "", false
	}
	value, rest, ended := readQuoted(quoted)
	return api.Label{Name: name, Value: value}, rest, ended
}

// readQuoted is the value that ends at a text's first quote that has no `\` ahead, and what is behind that quote.
func readQuoted(s string) (string, string, bool) {
	var value []byte
	for i := 0; i < len(s); i++ {
		if s[i] == '"' {
			return string(value), s[i+1:], true
		}
		if s[i] == '\\' {
			i++
			if i == len(s) || s[i] != '"' && s[i] != '\\' {
				break // only these two are written so
			}
		}
		value = append(value, s[i])
	}
	return "", "", false
}
