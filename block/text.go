package block

import (
	"slices"
	"strings"

	"transhipment/api"
)

// Print is the blocks' text.
func Print(l []api.Def) (string, api.Errno) {
	if !Right(l) {
		return "", api.ErrArg
	}
	var text []byte
	for _, block := range l {
		text = appendBlock(text, block)
	}
	if len(text) > api.MaxText {
		return "", api.ErrLong
	}
	return string(text), api.OK
}

// appendBlock has a block's lines behind the text.
func appendBlock(text []byte, d api.Def) []byte {
	text = append(text, "define "+d.Type+" {\n"...)
	for i, key := range d.Keys {
		text = append(text, "\t"+key+"\t"+d.Values[i]+"\n"...)
	}
	return append(text, "}\n"...)
}

// Parse is a text's blocks; beside an error, the number of its line.
func Parse(s string) ([]api.Def, api.Errno, int) {
	if len(s) > api.MaxText {
		return nil, api.ErrLong, 0
	}
	r := reader{may: outside}
	for i, line := range strings.SplitAfter(s, "\n") { // behind the last line that is ended comes one more: what is not ended, or the end
		if !r.read(line) {
			return nil, api.ErrLine, i + 1
		}
	}
	return r.blocks, api.OK, 0
}

// reader is the blocks that were read, the last one of which may still grow, and what the next line may be.
type reader struct {
	blocks []api.Def
	may    state
}

// state reads a line, with the byte 10 that ends it, or the text's end, which is a line of no bytes; it answers what the line behind may be, or nil, if this one is not as it must be.
type state func(r *reader, line string) state

// read reads a line, and tells whether it is as it must be.
func (r *reader) read(line string) bool {
	if !isLeftOut(line) {
		r.may = r.may(r, line)
	}
	return r.may != nil
}

// isLeftOut tells whether a line says nothing. One that is not ended is never left out, for it is a fault.
func isLeftOut(line string) bool {
	said, ended := strings.CutSuffix(strings.TrimLeft(line, " \t"), "\n")
	return ended && (said == "" || said[0] == '#' || said[0] == ';')
}

// outside is the state outside of a block.
func outside(r *reader, line string) state {
	if line == "" {
		return outside
	}
	behind, begins := strings.CutPrefix(line, "define ")
	name, opens := strings.CutSuffix(behind, " {\n")
	if !begins || !opens || !rightWord(name) || len(r.blocks) == mostBlocks {
		return nil
	}
	r.blocks = append(r.blocks, api.Def{Type: name})
	return within
}

// within is the state within the last block.
func within(r *reader, line string) state {
	if line == "}\n" {
		return outside
	}
	said, ended := strings.CutSuffix(line, "\n")
	behind, begins := strings.CutPrefix(said, "\t")
	key, value, _ := strings.Cut(behind, "\t") // if nothing parts them, the value is empty, which none may be
	if !ended || !begins || !rightWord(key) || !rightValue(value) {
		return nil
	}
	d := &r.blocks[len(r.blocks)-1]
	if len(d.Keys) == mostKeys || slices.Contains(d.Keys, key) {
		return nil
	}
	d.Keys, d.Values = append(d.Keys, key), append(d.Values, value)
	return within
}
