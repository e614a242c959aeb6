package outline

import (
	"strings"

	"transhipment/api"
)

// Print is a node's text.
func Print(n api.Node) (string, api.Errno) {
	if !Right(n) || len(n.Items) == 0 { // a word has none
		return "", api.ErrArg
	}
	var w writer
	if e := caught(func() { w.items(n, 0) }); e != api.OK {
		return "", e
	}
	return string(w.text), api.OK
}

// caught does something, and is the error that was panicked there; OK, if none was.
func caught(do func()) (e api.Errno) {
	defer func() {
		if fault := recover(); fault != nil {
			e = fault.(api.Errno) // nothing else is panicked here
		}
	}()
	do()
	return api.OK
}

// writer is a text that grows.
type writer struct {
	text []byte
}

// put has some parts behind the text; it panics, if that gets too long, for a node may have far more items than a text has room for.
func (w *writer) put(parts ...string) {
	for _, part := range parts {
		w.text = append(w.text, part...)
	}
	if len(w.text) > api.MaxText {
		panic(api.ErrLong)
	}
}

// items writes the lines of a node's items, so deep in.
func (w *writer) items(n api.Node, deep int) {
	for i, item := range n.Items {
		w.put(strings.Repeat("  ", deep))
		if n.Kind == api.NMap {
			w.put(n.Names[i], ":")
		} else {
			w.put("-")
		}
		w.behind(item, deep+1)
	}
}

// behind writes an item behind its name, or its `-`.
func (w *writer) behind(n api.Node, deep int) {
	if len(n.Items) > 0 {
		w.put("\n")
		w.items(n, deep)
		return
	}
	w.put(" ", flat(n), "\n")
}

// flat is how a node of no items is written.
func flat(n api.Node) string {
	switch n.Kind {
	case api.NRow:
		return "[]"
	case api.NMap:
		return "{}"
	}
	if isPlain(n.Word) {
		return n.Word
	}
	return quoted(n.Word)
}

// isPlain tells whether a word is written without quotes.
func isPlain(word string) bool {
	for i := 0; i < len(word); i++ {
		if !isPlainByte(word[i]) {
			return false
		}
	}
	return word != "" && word[0] != '-'
}

func isPlainByte(b byte) bool {
	switch b {
	case '_', '-', '.', '/', ':':
		return true
	}
	return isSmall(b) || isGreat(b) || isDigit(b)
}

func quoted(word string) string {
	text := []byte{'"'}
	for i := 0; i < len(word); i++ {
		if word[i] == '"' || word[i] == '\\' {
			text = append(text, '\\')
		}
		text = append(text, word[i])
	}
	return string(append(text, '"'))
}
