package outline

import (
	"math/rand"
	"regexp"
	"slices"
	"strings"
	"testing"

	"transhipment/api"
)

var (
	// anItem is what an item's line looks like, how long words are and how deep in it stands left aside.
	anItem = regexp.MustCompile(`^((?:  )*)(-|[a-z0-9_]{1,64}:)(?: (?:([A-Za-z0-9_./:][A-Za-z0-9_./:-]*)|"((?:[ !#-\[\]-~]|\\"|\\\\)*)"|(\[\])|(\{\})))?\n\z`)
	plain  = regexp.MustCompile(`^[A-Za-z0-9_./:][A-Za-z0-9_./:-]*\z`)
	leftIs = regexp.MustCompile(`^ *(#.*)?\n\z`)
)

// tree is a node that grows.
type tree struct {
	kind  int
	word  string
	names []string
	items []*tree
}

func (x *tree) node() api.Node {
	n := api.Node{Kind: x.kind, Word: x.word, Names: x.names}
	for _, item := range x.items {
		n.Items = append(n.Items, item.node())
	}
	return n
}

// grown is the item of a line's parts, and whether the line is a header.
func grown(parts []string, line string) (*tree, bool) {
	unquote := strings.NewReplacer(`\\`, `\`, `\"`, `"`)
	switch {
	case strings.HasSuffix(line, " []\n"):
		return &tree{kind: api.NRow}, false
	case strings.HasSuffix(line, " {}\n"):
		return &tree{kind: api.NMap}, false
	case parts[3] != "":
		return &tree{kind: api.NWord, word: parts[3]}, false
	case strings.HasSuffix(line, "\"\n"):
		return &tree{kind: api.NWord, word: unquote.Replace(parts[4])}, false
	}
	return &tree{}, true
}

// trueParse is the node of a text, found in another way: line by line, with those that are open at each depth. Else it is the line that is told.
func trueParse(s string) (api.Node, int) {
	lines := strings.SplitAfter(s, "\n")
	if lines[len(lines)-1] == "" {
		lines = lines[:len(lines)-1]
	}
	root := &tree{}
	var open []*tree
	header, last, ahead := true, root, -1
	for i, line := range lines {
		if !strings.HasSuffix(line, "\n") {
			return api.Node{}, i + 1
		}
		if leftIs.MatchString(line) {
			continue
		}
		parts := anItem.FindStringSubmatch(line)
		if parts == nil {
			return api.Node{}, i + 1
		}
		deep, kind := len(parts[1])/2, api.NMap
		if parts[2] == "-" {
			kind = api.NRow
		}
		if header {
			if deep != ahead+1 {
				return api.Node{}, i + 1
			}
			last.kind = kind
			open = append(open[:deep], last)
		}
		if deep > ahead && !header {
			return api.Node{}, i + 1
		}
		in := open[deep]
		last, header = grown(parts, line)
		if in.kind != kind || len(in.items) == 64 || kind == api.NMap && slices.Contains(in.names, strings.TrimSuffix(parts[2], ":")) {
			return api.Node{}, i + 1
		}
		if len(last.word) > 200 || strings.HasSuffix(line, "\"\n") && plain.MatchString(last.word) || deep > 6 || header && deep > 5 {
			return api.Node{}, i + 1
		}
		if in.items = append(in.items, last); kind == api.NMap {
			in.names = append(in.names, strings.TrimSuffix(parts[2], ":"))
		}
		ahead = deep
	}
	if header {
		return api.Node{}, len(lines) + 1
	}
	return root.node(), 0
}

// parsed fails, if a text is not read as it should be; it tells whether it is that of a node.
func parsed(t *testing.T, s string) bool {
	t.Helper()
	got, e, line := Parse(s)
	want, at := trueParse(s)
	if at > 0 {
		if !zero(got) || e != api.ErrLine || line != at {
			t.Fatalf("%q is read as %v, %d, %d, and its line %d is not as it must be", s, got, e, line, at)
		}
		return false
	}
	if !same(got, want) || e != api.OK || line != 0 || !Right(got) {
		t.Fatalf("%q is read as %v, %d, %d, not %v", s, got, e, line, want)
	}
	again, e := Print(got)
	if e != api.OK || again != without(s) {
		t.Fatalf("%q is written again as %q, %d", s, again, e)
	}
	return true
}

// without is a text without the lines that are left out.
func without(s string) string {
	text := ""
	for _, line := range strings.SplitAfter(s, "\n") {
		if !leftIs.MatchString(line) {
			text += line
		}
	}
	return text
}

// P5.2: texts that are not as they must be, and the lines that are told.
func TestParseWrong(t *testing.T) {
	for s, at := range map[string]int{
		"": 1, "\n": 2, " \n": 2, "\n\n\n": 4, "# x\n": 2, "  # x\n \n": 3,
		"a: 1": 1, "# x": 1, " ": 1, "a: 1\n# x": 2, "a: 1\n ": 2, "a: 1\nb: 2": 2, "a: 1\n\nb: 2": 3, "\n\n ": 3, "-": 1, "a:": 1, "a: 1\nb: 2\n#": 3, "a:\n  - x": 2,
		"a: 1\n\n#": 3, "A: 1": 1, "A: 1\n#": 1, "a: 1\n?\nb: 2": 2,
		"a:\n": 2, "-\n": 2, "a:\n\n# x\n": 4, "a: 1\nb:\n": 3, "a:\n  b:\n": 3, "a:\n  - x\nb:\n": 4, "-\n  -\n    -\n": 4,
		"a\n": 1, "a:1\n": 1, "a :1\n": 1, "a : 1\n": 1, ":\n": 1, ": 1\n": 1, " a: 1\n": 1, "a:  1\n": 1, "a: \n": 1, "a:1: 2\n": 1, "a: 1 \n": 1, "a:\t1\n": 1, "\ta: 1\n": 1, "a: 1\t\n": 1, "a: 1\r\n": 1, "\r\n": 1, "\t\n": 1, "\v# x\n": 1, "\x00\n": 1,
		"A: 1\n": 1, "a-b: 1\n": 1, "a.b: 1\n": 1, "é: 1\n": 1, "\"a\": 1\n": 1, "a b: 1\n": 1, long(65) + ": 1\n": 1, long(65) + ":\n  - x\n": 1, "a:b: 1\n": 1, "a:: 1\n": 1, "a::\n  - x\n": 1,
		"--\n": 1, "-x\n": 1, "-:\n": 1, "-: x\n": 1, "- \n": 1, "-  x\n": 1, "- x \n": 1, "- - x\n": 1, "- -\n": 1, "- -x\n": 1, "- a: 1\n": 1, "- a:\n  - x\n": 2, "-[]\n": 1, "x\n": 1, "*\n": 1,
		"a: x y\n": 1, "a: \"b\"\n": 1, "a: \"\n": 1, "a: \"\"\"\n": 1, "a: x\"\n": 1, "a: \"x y\n": 1, "a: x y\"\n": 1, "a: 'x'\n": 1, "a: x # y\n": 1, "a: # y\n": 1, "a: x#\n": 1, "a: é\n": 1, "a: \"é\"\n": 1, "a: \" \x7f\"\n": 1, "a: \" \x1f\"\n": 1, "a: \"\xff\"\n": 1, "a: \" \"x\n": 1, "a: \" \" \n": 1, "a:\" \"\n": 1,
		"a: \"\\\"\n": 1, "a: \"\\\n": 1, "a: \\\n": 1, "a: \"\\n\"\n": 1, "a: \"\\ \"\n": 1, "a: \"x\\ y\"\n": 1, "a: \"x y\\\"\n": 1, "a: \"\\\\\\\"\n": 1, "a: \"x\"y\"\n": 1, "a: \" \" \"\n": 1, "a: \"\\x\"\n": 1, "a: \"\\-\"\n": 1,
		"a: [ ]\n": 1, "a: { }\n": 1, "a: []{}\n": 1, "a: [] \n": 1, "a: [x]\n": 1, "a: [\n": 1, "a: ]\n": 1, "a: {\n": 1, "a:[]\n": 1, "a:{}\n": 1, "a:  []\n": 1, "a: {b: c}\n": 1, "[]\n": 1, "{}\n": 1, " []\n": 1, "a: [\n]\n": 1, "- ][\n": 1, "- }{\n": 1, "- [}\n": 1,
		"a: " + long(201) + "\n": 1, "a: \"" + strings.Repeat(" ", 201) + "\"\n": 1, "a: \"" + strings.Repeat(`\\`, 201) + "\"\n": 1, "- x\n- " + long(201) + "\n": 2, "- x\n- \" " + long(200) + "\"\n": 2,
		"  a: 1\n": 1, "   a: 1\n": 1, "    a: 1\n": 1, "a: 1\n b: 2\n": 2, "a: 1\n  b: 2\n": 2, "a: 1\n    b: 2\n": 2, "a: []\n  - x\n": 2, "a: {}\n  b: x\n": 2, "- x\n  - y\n": 2,
		"a:\nb: 1\n": 2, "a:\n- x\n": 2, "a:\n - x\n": 2, "a:\n   - x\n": 2, "a:\n    - x\n": 2, "-\n- x\n": 2, "a:\n  b:\nc: 1\n": 3, "a:\n  b:\n  c: 1\n": 3, "a:\n  b:\n      c: 1\n": 3, "a:\n# x\n\nb: 1\n": 4,
		"a:\n  - x\n    - y\n": 3, "a:\n  - x\n - y\n": 3, "a:\n  - x\n   - y\n": 3, "-\n  - x\n\n    - y\n": 4, "# x\na:\n  b: 1\n      c: 2\n": 4,
		"a: 1\n- 2\n": 2, "- 1\na: 2\n": 2, "a:\n  - x\n- y\n": 3, "-\n  - x\na: y\n": 3, "a:\n  - x\n  b: y\n": 3, "-\n  a: x\n  - y\n": 3, "a:\n  - x\n  -\n    b: y\n  c: z\n": 5, "a:\n  b:\n    - x\n  - y\n": 4, "a:\n  b:\n    - x\n- y\n": 4,
		"a: 1\na: 2\n": 2, "a: 1\nb: 2\na: 3\n": 3, "a: 1\na:\n": 2, "a:\n  - x\na:\n  - y\n": 3, "a:\n  b: 1\n  b: 2\n": 3, "a:\n  b: 1\na: 2\n": 3, "a:\n  a: 1\n  c:\n    a: 1\n  a: 2\n": 5, "a: []\nb: []\nb: []\n": 3, "a: 1\n\n# x\na: 2\n": 4,
		"a: 1\na: 2\n?\n": 2, "a: 1\n?\na: 2\n": 2, "a:\n?\nb: 1\n": 2, "a: 1\n- x": 2,
	} {
		if n, e, line := Parse(s); !zero(n) || e != api.ErrLine || line != at {
			t.Errorf("%.200q is read as %v, %d, %d, not at %d", s, n, e, line, at)
		}
		parsed(t, s)
	}
}

// P5.2: lines that are left out, wherever they are, whatever is in them.
func TestLeftOut(t *testing.T) {
	want := named("a b", row(word("x"), word("#")), word("y"))
	for _, out := range []string{"\n", " \n", "     \n", "#\n", "# x\n", "   #\n", "  # a: 1\n", "#\xff\x00\t\r\n", "##\n", "#a: 1\n", "\n#\n \n", "# " + long(1000) + "\n", strings.Repeat(" ", 1001) + "\n"} {
		s := out + "a:\n" + out + "  - x\n" + out + "  - \"#\"\n" + out + "b: y\n" + out
		if n, e, line := Parse(s); !same(n, want) || e != api.OK || line != 0 {
			t.Errorf("%q is read as %v, %d, %d", s, n, e, line)
		}
		parsed(t, s)
		parsed(t, s[:len(s)-1])
		parsed(t, s+"?\n")
		for i := range len(s) {
			parsed(t, s[:i]+" "+s[i:])
		}
	}
}

// headers are lines of so many headers within one another, and how deep in the next line stands.
func headers(many int) (string, string) {
	text, blanks := "", ""
	for range many {
		text += blanks + "-\n"
		blanks += "  "
	}
	return text, blanks
}

// P5.2: how deep in lines may be, and headers.
func TestDeep(t *testing.T) {
	for many := range 80 {
		text, blanks := headers(many)
		for _, last := range []string{"- x\n", "a: x\n", "- []\n", "a: {}\n", "- x\n" + blanks + "- y\n", "- \"\"\n- x\n"} {
			s := text + blanks + last
			if n, e, line := Parse(s); many <= 6 {
				if depth(n) != many+2 || e != api.OK || line != 0 {
					t.Errorf("%q is read as %v, %d, %d", s, n, e, line)
				}
				parsed(t, s)
			} else if !zero(n) || e != api.ErrLine || line != 7 {
				t.Errorf("%q is read as %v, %d, %d", s, n, e, line)
			}
		}
		if n, e, line := Parse(text); !zero(n) || e != api.ErrLine || line != min(many+1, 7) {
			t.Errorf("%q is read as %v, %d, %d", text, n, e, line)
		}
		for _, last := range []string{"- x\n", "-\n", "?\n"} { // a header that is too deep in comes ahead of what is behind it
			for more := range 5 {
				parsed(t, text+strings.Repeat(" ", more)+last)
				parsed(t, text+blanks+strings.Repeat(" ", more)+last)
			}
		}
	}
}

// P5.2: how many items there may be, wherever they stand.
func TestMany(t *testing.T) {
	line := func(i int) string { return strings.ReplaceAll(names(i + 1)[i*3:], " ", ": x\n") }
	for many := 60; many < 70; many++ {
		rows, maps, inner, heads := "", "", "", ""
		for i := range many {
			rows += "- x\n"
			maps += line(i)
			inner += "  - x\n"
			heads += "-\n  - x\n"
		}
		for s, at := range map[string]int{rows: 65, maps: 65, "a:\n" + inner: 66, "a:\n" + inner + "b: x\n": 66, "\n" + rows: 66, heads: 129} {
			n, e, no := Parse(s)
			if many <= 64 && (e != api.OK || no != 0 || !Right(n)) || many > 64 && (!zero(n) || e != api.ErrLine || no != at) {
				t.Errorf("%.20q.. of %d: %d, %d", s, many, e, no)
			}
			parsed(t, s)
		}
	}
	two := "a:\n" + strings.Repeat("  - x\n", 64) + "b:\n" + strings.Repeat("  - x\n", 64)
	if n, e, line := Parse(two); len(n.Items) != 2 || e != api.OK || line != 0 {
		t.Errorf("two of 64: %d, %d", e, line)
	}
}

// P5.2: how long a text may be; that it is longer is told ahead of all else.
func TestParseLong(t *testing.T) {
	for _, head := range []string{"a: 1\n", "?\n", "a: 1\na: 1\n", ""} {
		for _, tail := range []string{"\n", "b: 1\n", "x", ":\n"} {
			for many := 8180; many < 8210; many++ {
				s := head + "#" + strings.Repeat("x", many-len(head)-len(tail)-2) + "\n" + tail
				if many <= 8192 {
					parsed(t, s)
				} else if n, e, line := Parse(s); !zero(n) || e != api.ErrLong || line != 0 {
					t.Errorf("of %d bytes: %v, %d, %d", len(s), n, e, line)
				}
			}
		}
	}
	for _, s := range []string{strings.Repeat("\n", 8193), strings.Repeat("-\n", 1<<20), long(1 << 20), strings.Repeat("- x\n", 1<<20)} {
		if n, e, line := Parse(s); !zero(n) || e != api.ErrLong || line != 0 {
			t.Errorf("of %d bytes: %v, %d, %d", len(s), n, e, line)
		}
	}
	for _, s := range []string{strings.Repeat("\n", 8192), strings.Repeat("-\n", 4096), strings.Repeat(" ", 8191) + "\n", strings.Repeat(" ", 8189) + "- \n", "- \"" + strings.Repeat(`\`, 8187) + "\"\n"} {
		parsed(t, s)
	}
}

// P5.2, P5.3: each text of a few pieces that the form is made of.
func TestShortTexts(t *testing.T) {
	pieces := []string{"\n", " ", "-", "- ", "a: ", "b:", "x", "[]", "#", "\"", "\\", "  "}
	most, nodes := 5, 0
	var extend func(s string, left int)
	extend = func(s string, left int) {
		for _, text := range []string{s, s + "\n"} {
			if parsed(t, text) {
				nodes++
			}
		}
		if left == 0 {
			return
		}
		for _, piece := range pieces {
			extend(s+piece, left-1)
		}
	}
	extend("", most)
	if nodes < 1000 {
		t.Errorf("%d were nodes", nodes)
	}
}

// P5.2, P5.3: each text of a few lines.
func TestFewLines(t *testing.T) {
	lines := []string{"a: x\n", "b:\n", "-\n", "- x\n", "  a: x\n", "  b:\n", "  -\n", "  - []\n", "    c: \" \"\n", "    - x\n", "\n", " # x\n", "?\n"}
	nodes := 0
	var extend func(s string, left int)
	extend = func(s string, left int) {
		if parsed(t, s) {
			nodes++
		}
		if left == 0 {
			return
		}
		for _, line := range lines {
			extend(s+line, left-1)
		}
	}
	extend("", 4)
	for _, head := range []string{"a:\n  b:\n", "-\n  -\n", "a:\n  -\n    - x\n", "-\n  b: x\n"} {
		extend(head, 3)
	}
	if nodes < 500 {
		t.Errorf("%d were nodes", nodes)
	}
}

// P5.3: nodes of any kind are read as they were written; what is read, changed here and there, is written the same, or refused.
func TestAnyTexts(t *testing.T) {
	r := rand.New(rand.NewSource(1))
	still, refused, deepest := 0, 0, 0
	for range 20000 {
		n := randomNode(r, 8)
		s, e := Print(n)
		if len(n.Items) == 0 || e == api.ErrLong {
			if s != "" || e == api.OK {
				t.Fatalf("the text of %v is %q, %d", n, s, e)
			}
			continue
		}
		if got, e2, line := Parse(s); !same(got, n) || e != api.OK || e2 != api.OK || line != 0 {
			t.Fatalf("%v, written, %q, %d, is read as %v, %d, %d", n, s, e, got, e2, line)
		}
		deepest = max(deepest, depth(n))
		for range 4 {
			changed := []byte(s)
			at := r.Intn(len(changed))
			switch r.Intn(5) {
			case 0:
				changed[at] = " -:\"\\[]{}#\nab1A\xff"[r.Intn(16)]
			case 1:
				changed = slices.Delete(changed, at, at+1)
			case 2:
				changed = slices.Insert(changed, at, " -:\"\\[]{}#\nab1\x1f"[r.Intn(15)])
			case 3:
				changed = slices.Insert(changed, at, ' ', ' ')
			case 4:
				lines := strings.SplitAfter(s, "\n")
				i, k := r.Intn(len(lines)), r.Intn(len(lines))
				lines[i], lines[k] = lines[k], lines[i]
				changed = []byte(strings.Join(lines, ""))
			}
			if parsed(t, string(changed)) {
				still++
			} else {
				refused++
			}
		}
	}
	if still < 2000 || refused < 2000 || deepest != 8 {
		t.Errorf("%d were nodes, %d were not, %d deep", still, refused, deepest)
	}
}

// P1: texts of bytes of any kind.
func TestAnyBytes(t *testing.T) {
	r := rand.New(rand.NewSource(2))
	for range 20000 {
		b := make([]byte, r.Intn(40))
		r.Read(b)
		for _, s := range []string{string(b), string(b) + "\n", "- " + string(b) + "\n", "- \"" + string(b) + "\"\n", "a:\n  " + string(b) + "\n"} {
			parsed(t, s)
		}
	}
}

// Ways: a place goes on by its own method, whoever is handed it; what is panicked is told, and nothing is, if there was none.
func TestPlaces(t *testing.T) {
	one, two := &place{rest: "a: 1\n\n# x\n  -\n"}, &place{rest: "- x\n"}
	next, other := one.next, two.next
	if x := next(); x.name != "a" || x.deep != 0 || one.line != 1 || two.line != 0 {
		t.Error(x, one.line, two.line)
	}
	if x := other(); x.of != api.NRow || x.node.Word != "x" || one.line != 1 || two.line != 1 {
		t.Error(x, one.line, two.line)
	}
	if x := next(); x.deep != 1 || x.node.Kind != 0 || one.line != 4 {
		t.Error(x, one.line)
	}
	if x := next(); x.deep >= 0 || one.line != 5 {
		t.Error(x, one.line)
	}
	if e := caught(func() { must(false) }); e != api.ErrLine {
		t.Error(e)
	}
	if e := caught(func() { must(true) }); e != api.OK {
		t.Error(e)
	}
}
