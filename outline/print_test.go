package outline

import (
	"slices"
	"strings"
	"testing"

	"transhipment/api"
)

// printed are nodes with their texts.
func printed() map[string]api.Node {
	quoted200 := word(strings.Repeat(`"`, 200))
	return map[string]api.Node{
		"- x\n":                            row(word("x")),
		"a: x\n":                           named("a", word("x")),
		"- \"\"\n":                         row(word("")),
		"- []\n":                           row(row()),
		"- {}\n":                           row(named("")),
		"- \"[]\"\n":                       row(word("[]")),
		"- \"{}\"\n":                       row(word("{}")),
		"a: []\nb: {}\n":                   named("a b", row(), named("")),
		"b: 1\na: 2\n":                     named("b a", word("1"), word("2")),
		"0: 0\n_: _\n":                     named("0 _", word("0"), word("_")),
		"- a\n- a\n":                       row(word("a"), word("a")),
		"- x-\n- \"-x\"\n":                 row(word("x-"), word("-x")),
		"- \"-\"\n":                        row(word("-")),
		"- :\n- a:\n- /\n":                 row(word(":"), word("a:"), word("/")),
		"- aZ_09-./:\n":                    row(word("aZ_09-./:")),
		"- Z\n- 9\n- .\n":                  row(word("Z"), word("9"), word(".")),
		"- \" \"\n":                        row(word(" ")),
		"- \"a b\"\n":                      row(word("a b")),
		"- \" a\"\n- \"a \"\n":             row(word(" a"), word("a ")),
		"- \"#\"\n- \"x#\"\n":              row(word("#"), word("x#")),
		"- \"a=\\\"b\\\"\"\n":              row(word(`a="b"`)),
		"- \"\\\"\"\n":                     row(word(`"`)),
		"- \"\\\\\"\n":                     row(word(`\`)),
		"- \"\\\\\\\"\"\n":                 row(word(`\"`)),
		"- \"\\\"\\\\\"\n":                 row(word(`"\`)),
		"- \"\\\\n\"\n":                    row(word(`\n`)),
		"- \"m > 5\"\n":                    row(word("m > 5")),
		"-\n  - x\n":                       row(row(word("x"))),
		"-\n  a: x\n":                      row(named("a", word("x"))),
		"a:\n  - x\n":                      named("a", row(word("x"))),
		"a:\n  a: x\n":                     named("a", named("a", word("x"))),
		"a: 1\nb:\n  - x\n":                named("a b", word("1"), row(word("x"))),
		"-\n  - x\n-\n  - x\n":             row(row(word("x")), row(word("x"))),
		"a:\n  b:\n    c: d\n":             named("a", named("b", named("c", word("d")))),
		"a:\n  b:\n    - d\n":              named("a", named("b", row(word("d")))),
		"a:\n  - x\nb: y\n":                named("a b", row(word("x")), word("y")),
		"-\n  -\n    - x\n- y\n":           row(row(row(word("x"))), word("y")),
		"-\n  -\n    - x\n  - y\n- z\n":    row(row(row(word("x")), word("y")), word("z")),
		"a:\n  - x\n  - []\nb:\n  c: {}\n": named("a b", row(word("x"), row()), named("c", named(""))),
		"a:\n  a: 1\n  b: 2\nb:\n  a: 3\na_: 4\n":                               named("a b a_", named("a b", word("1"), word("2")), named("a", word("3")), word("4")),
		"-\n  a:\n    -\n      a:\n        -\n          a:\n            - x\n":  around(word("x"), 7),
		"-\n  a:\n    -\n      a:\n        -\n          a:\n            - []\n": around(row(), 7),
		strings.Repeat("- x\n", 64):                                             row(words(64)...),
		"a:\n" + strings.Repeat("  - x\n", 64) + "b: y\n":                       named("a b", row(words(64)...), word("y")),
		strings.ReplaceAll(names(64), " ", ": x\n"):                             named(names(64), words(64)...),
		long(64) + ": " + long(200) + "\n":                                      named(long(64), word(long(200))),
		"- \"" + strings.Repeat(`\"`, 200) + "\"\n":                             row(quoted200),
		"- \"" + strings.Repeat(" ", 200) + "\"\n":                              row(word(strings.Repeat(" ", 200))),
	}
}

// P5.1, P5.2, P5.3: nodes and their texts, either way.
func TestPrintAndParse(t *testing.T) {
	for want, n := range printed() {
		if s, e := Print(n); s != want || e != api.OK {
			t.Errorf("the text of %v is %q, %d, not %q", n, s, e, want)
		}
		if got, e, line := Parse(want); !same(got, n) || e != api.OK || line != 0 {
			t.Errorf("%q is read as %v, %d, %d, not %v", want, got, e, line, n)
		}
	}
	for _, n := range rightNodes() {
		if n = row(n); !Right(n) {
			continue
		}
		s, e := Print(n)
		if got, e2, line := Parse(s); !same(got, n) || !Like(got, n) || e != api.OK || e2 != api.OK || line != 0 {
			t.Errorf("%.200v, written, %.200q, %d, is read as %.200v, %d, %d", n, s, e, got, e2, line)
		}
	}
}

// P5.1, P5.2: each byte in a word: whether it stands in quotes, with a `\` ahead, or not at all.
func TestPrintBytes(t *testing.T) {
	for b := range 256 {
		one := string([]byte{byte(b)})
		for _, text := range []string{one, one + "x", "x" + one, "x" + one + "x", one + one} {
			s, e := Print(row(word(text)))
			if b < 32 || b > 126 {
				if s != "" || e != api.ErrArg {
					t.Errorf("the text of %q is %q, %d", text, s, e)
				}
				continue
			}
			want := text
			if !strings.Contains(plainBytes, one) || text[0] == '-' {
				want = `"` + strings.ReplaceAll(strings.ReplaceAll(text, `\`, `\\`), `"`, `\"`) + `"`
			}
			if want = "- " + want + "\n"; s != want || e != api.OK {
				t.Errorf("the text of %q is %q, %d, not %q", text, s, e, want)
			}
			parsed(t, "- "+text+"\n")
			parsed(t, `- "`+text+"\"\n")
			parsed(t, `- "\`+text+"\"\n")
		}
	}
}

// P5.1: what has no text.
func TestPrintWrong(t *testing.T) {
	refused := func(n api.Node) {
		t.Helper()
		if s, e := Print(n); s != "" || e != api.ErrArg {
			t.Errorf("the text of one of kind %d is %.200q, %d", n.Kind, s, e) // it may have no end
		}
	}
	for _, n := range []api.Node{word(""), word("x"), word("[]"), row(), named(""), {Kind: api.NRow, Items: []api.Node{}}} {
		refused(n)
	}
	for _, n := range wrongNodes() {
		for _, whole := range []api.Node{n, row(n), named("a", n), row(word("x"), n), row(n, word("x")), around(n, 5)} {
			refused(whole)
		}
	}
}

// sized is a row whose text has that many bytes, and a last word.
func sized(many int, last string) api.Node {
	var items []api.Node
	left := many - len("- \n") - len(last)
	for left > len("- \n")+200 {
		items = append(items, word(long(150)))
		left -= len("- \n") + 150
	}
	return row(append(items, word(long(left-len("- \n"))), word(last))...)
}

// P5.1: how long a text may be; what may not be is told ahead of that.
func TestPrintLong(t *testing.T) {
	for _, last := range []string{"x", long(60)} {
		for many := 8150; many <= 8192; many++ {
			n := sized(many, last)
			if s, e := Print(n); len(s) != many || e != api.OK {
				t.Errorf("of %d bytes: %d, %d", many, len(s), e)
			} else if got, e, line := Parse(s); !same(got, n) || e != api.OK || line != 0 {
				t.Errorf("of %d bytes, read: %d, %d", many, e, line)
			}
		}
		for many := 8193; many < 8240; many++ {
			if s, e := Print(sized(many, last)); s != "" || e != api.ErrLong {
				t.Errorf("of %d bytes: %d, %d", many, len(s), e)
			}
		}
	}
	for s, n := range map[string]api.Node{"- []\n": row(), "- {}\n": named(""), "-\n  - x\n": row(word("x")), "-\n  a: []\n": named("a", row())} {
		fits, long := sized(8192-len(s), "x"), sized(8193-len(s), "x")
		if text, e := Print(row(append(fits.Items, n)...)); e != api.OK || len(text) != 8192 || !strings.HasSuffix(text, s) {
			t.Errorf("with %q at the end: %d, %d", s, len(text), e)
		}
		if text, e := Print(row(append(long.Items, n)...)); e != api.ErrLong || text != "" {
			t.Errorf("with %q at the end, one byte too many: %d, %d", s, len(text), e)
		}
	}
	full := sized(8190, "x")
	huge := row(slices.Repeat([]api.Node{row(slices.Repeat([]api.Node{row(words(64)...)}, 64)...)}, 64)...)
	for _, n := range []api.Node{huge, around(huge, 4), row(full, full), named("a b", full, full)} {
		if s, e := Print(n); s != "" || e != api.ErrLong {
			t.Errorf("of far too many bytes: %d, %d", len(s), e)
		}
		if s, e := Print(row(n, word("\n"))); s != "" || e != api.ErrArg {
			t.Errorf("with a word that may not be at the end: %d, %d", len(s), e)
		}
	}
}
