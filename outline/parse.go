package outline

import (
	"slices"
	"strings"

	"transhipment/api"
)

// deepestHeader is how deep in a header may be: the node of all lines, what the header heads, and an item of that are one deep each. What is no header is one deeper in at the most without being asked, for it is no deeper than a line ahead of it, or behind a header.
const deepestHeader = api.MaxDepth - 3

// Parse is a text's node; beside an error, the number of its line.
func Parse(s string) (api.Node, api.Errno, int) {
	if len(s) > api.MaxText {
		return api.Node{}, api.ErrLong, 0
	}
	p := &place{rest: s}
	var n api.Node
	if e := caught(func() { n = readText(p.next) }); e != api.OK {
		return api.Node{}, e, p.line
	}
	return n, api.OK, 0
}

// must panics, if the line at which a reader is is not as it must be.
func must(holds bool) {
	if !holds {
		panic(api.ErrLine)
	}
}

// item is what a line says: how deep in it stands, the kind of what it is an item of, its name there, and its node, which has no kind, if the line is a header.
type item struct {
	deep int
	of   int
	name string
	node api.Node
}

// place is where in the lines a reader is: what is behind, and the number of the line that was read last, or that would be behind the last one.
type place struct {
	rest string
	line int
}

// next goes on to the next line that is not left out; behind the last one there is an item that is in nothing.
func (p *place) next() item {
	for p.rest != "" {
		line, rest, ended := strings.Cut(p.rest, "\n")
		p.rest = rest
		p.line++
		must(ended)
		if said := strings.TrimLeft(line, " "); said != "" && said[0] != '#' {
			return readItem(said, len(line)-len(said))
		}
	}
	p.line++
	return item{deep: -1}
}

// readText reads all lines.
func readText(next func() item) api.Node {
	first := next()
	must(first.deep == 0)
	n, _ := readItems(first, next) // behind them is nothing: what is less deep in than they are is behind the last line
	return n
}

// readItems reads a row's or a map's items from the first one on, and answers the item behind them, too, for it is read by then. An item is held against those ahead of it, ahead of the next line: the first fault is told.
func readItems(x item, next func() item) (api.Node, item) {
	n, deep := api.Node{Kind: x.of}, x.deep
	for x.deep == deep {
		must(x.of == n.Kind && len(n.Items) < api.MaxWord && !slices.Contains(n.Names, x.name))
		if n.Kind == api.NMap {
			n.Names = append(n.Names, x.name)
		}
		node, behind := x.node, next()
		if node.Kind == 0 {
			must(behind.deep == deep+1)
			node, behind = readItems(behind, next)
		}
		must(behind.deep <= deep)
		n.Items = append(n.Items, node)
		x = behind
	}
	return n, x
}

// readItem reads a line behind its blanks.
func readItem(said string, blanks int) item {
	must(blanks%2 == 0)
	x := item{deep: blanks / 2, of: api.NRow}
	behind, dash := strings.CutPrefix(said, "-")
	if !dash {
		x.of = api.NMap
		colon := false
		x.name, behind, colon = strings.Cut(said, ":")
		must(colon && rightName(x.name))
	}
	if behind == "" {
		must(x.deep <= deepestHeader)
		return x
	}
	x.node = readFlat(behind)
	return x
}

// readFlat reads a node that stands behind its name, or its `-`.
func readFlat(behind string) api.Node {
	text, blank := strings.CutPrefix(behind, " ")
	must(blank)
	switch text {
	case "[]":
		return api.Node{Kind: api.NRow}
	case "{}":
		return api.Node{Kind: api.NMap}
	}
	n := api.Node{Kind: api.NWord, Word: unquoted(text)}
	must(rightWord(n.Word) && flat(n) == text) // a word has one text
	return n
}

// unquoted is the word that is written so, if any is; of a text that none is written as it is some word.
func unquoted(text string) string {
	within, opened := strings.CutPrefix(text, `"`)
	if !opened {
		return text
	}
	within = strings.TrimSuffix(within, `"`)
	var word []byte
	for i := 0; i < len(within); i++ {
		if within[i] == '\\' && i+1 < len(within) {
			i++
		}
		word = append(word, within[i])
	}
	return string(word)
}
