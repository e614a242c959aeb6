package block

import (
	"math/rand"
	"regexp"
	"slices"
	"strings"
	"testing"

	"transhipment/api"
)

var (
	beginIs = regexp.MustCompile(`^define ([a-z0-9_]{1,64}) \{\n\z`)
	keyIs   = regexp.MustCompile(`^\t([a-z0-9_]{1,64})\t([!-:<-~](?:[ -:<-~]{0,198}[!-:<-~])?)\n\z`)
	leftIs  = regexp.MustCompile(`^[ \t]*([#;].*)?\n\z`)
)

// trueParse is the blocks of a text, found in another way. Else it is the line that is told.
func trueParse(s string) ([]api.Def, int) {
	lines := strings.SplitAfter(s, "\n")
	if lines[len(lines)-1] == "" {
		lines = lines[:len(lines)-1]
	}
	var l []api.Def
	in := false
	for i, line := range lines {
		begin, said := beginIs.FindStringSubmatch(line), keyIs.FindStringSubmatch(line)
		switch {
		case leftIs.MatchString(line):
		case !in && begin != nil && len(l) < 64:
			in, l = true, append(l, def(begin[1]))
		case in && line == "}\n":
			in = false
		case in && said != nil && len(l[len(l)-1].Keys) < 64 && !slices.Contains(l[len(l)-1].Keys, said[1]):
			d := &l[len(l)-1]
			d.Keys, d.Values = append(d.Keys, said[1]), append(d.Values, said[2])
		default:
			return nil, i + 1
		}
	}
	if in {
		return nil, len(lines) + 1
	}
	return l, 0
}

// without is a text without the lines that are left out.
func without(s string) string {
	text := ""
	for _, line := range strings.SplitAfter(s, "\n") {
		if !leftIs.MatchString(line) {
			text += line
		}
	}
	return text
}

// parsed fails, if a text is not read as it should be; it tells whether it is that of blocks.
func parsed(t *testing.T, s string) bool {
	t.Helper()
	got, e, line := Parse(s)
	want, at := trueParse(s)
	if at > 0 {
		if len(got) > 0 || e != api.ErrLine || line != at {
			t.Fatalf("%q is read as %v, %d, %d, and its line %d is not as it must be", s, got, e, line, at)
		}
		return false
	}
	if !same(got, want) || e != api.OK || line != 0 || !Right(got) {
		t.Fatalf("%q is read as %v, %d, %d, not %v", s, got, e, line, want)
	}
	again, e := Print(got)
	if e != api.OK || again != without(s) {
		t.Fatalf("%q is written again as %q, %d", s, again, e)
	}
	return true
}

// printed are blocks with their texts.
func printed() map[string][]api.Def {
	return map[string][]api.Def{
		"":                                nil,
		"define a {\n}\n":                 {def("a")},
		"define host {\n\tname\ta\n}\n":   {def("host", "name", "a")},
		"define a {\n\tb\t1\n\ta\t2\n}\n": {def("a", "b", "1", "a", "2")},
		"define a {\n}\ndefine a {\n}\n":  {def("a"), def("a")},
		"define b {\n\tk\tv\n}\ndefine a {\n\tk\tw\n}\n":                        {def("b", "k", "v"), def("a", "k", "w")},
		"define define {\n\tdefine\tdefine a {\n}\n":                            {def("define", "define", "define a {")},
		"define _ {\n\t0\t}\n\t_\t{\n\t9\t#\n\tz\t\\\"'\n}\n":                   {def("_", "0", "}", "_", "{", "9", "#", "z", `\"'`)},
		"define a {\n\tk\ta  b\n\tl\t! ~\n}\ndefine c {\n}\n":                   {def("a", "k", "a  b", "l", "! ~"), def("c")},
		"define " + long(64) + " {\n\t" + long(64) + "\t" + long(200) + "\n}\n": {def(long(64), long(64), long(200))},
		strings.Repeat("define a {\n}\n", 64):                                   blocks(64, def("a")),
	}
}

// P6.1, P6.2, P6.3: blocks and their texts, either way.
func TestPrintAndParse(t *testing.T) {
	for want, l := range printed() {
		if s, e := Print(l); s != want || e != api.OK {
			t.Errorf("the text of %v is %q, %d, not %q", l, s, e, want)
		}
		if got, e, line := Parse(want); !same(got, l) || e != api.OK || line != 0 {
			t.Errorf("%q is read as %v, %d, %d, not %v", want, got, e, line, l)
		}
		parsed(t, want)
	}
	for _, d := range rightDefs() {
		s, e := Print([]api.Def{d})
		if len(d.Keys) == 64 && len(d.Values[0]) == 200 { // the one that is too long
			continue
		}
		if got, e2, line := Parse(s); !same(got, []api.Def{d}) || !Like(got, []api.Def{d}) || e != api.OK || e2 != api.OK || line != 0 {
			t.Errorf("%.200v, written, %.200q, %d, is read as %.200v, %d, %d", d, s, e, got, e2, line)
		}
	}
}

// P6.1: what has no text; that is told ahead of how long it is.
func TestPrintWrong(t *testing.T) {
	huge := wide(64, long(200))
	for _, d := range wrongDefs() {
		for _, l := range [][]api.Def{{d}, {d, def("x")}, {def("x"), d}, {huge, d}, {d, huge}} {
			if s, e := Print(l); s != "" || e != api.ErrArg {
				t.Errorf("the text of %d of %.200v is %.200q, %d", len(l), d, s, e)
			}
		}
	}
	for _, l := range [][]api.Def{blocks(65, def("a")), blocks(65, huge), blocks(1<<16, def("a"))} {
		if s, e := Print(l); s != "" || e != api.ErrArg {
			t.Errorf("the text of %d is %.200q, %d", len(l), s, e)
		}
	}
}

// sized are blocks whose text has that many bytes.
func sized(many int) []api.Def {
	var l []api.Def
	left := many
	about := len("define a {\n\tk\t\n}\n")
	for left > 2*(about+200) {
		l = append(l, def("a", "k", long(200)))
		left -= about + 200
	}
	for left > about+200 {
		l = append(l, def("a", "k", long(20)))
		left -= about + 20
	}
	return append(l, def("a", "k", long(left-about)))
}

// P6.1, P6.3: how long a text may be.
func TestPrintLong(t *testing.T) {
	for many := 8150; many <= 8192; many++ {
		l := sized(many)
		s, e := Print(l)
		if len(s) != many || e != api.OK {
			t.Errorf("of %d bytes: %d, %d", many, len(s), e)
		}
		if got, e, line := Parse(s); !same(got, l) || e != api.OK || line != 0 {
			t.Errorf("of %d bytes, read: %d, %d", many, e, line)
		}
	}
	for many := 8193; many < 8240; many++ {
		if s, e := Print(sized(many)); s != "" || e != api.ErrLong {
			t.Errorf("of %d bytes: %d, %d", many, len(s), e)
		}
	}
	for _, l := range [][]api.Def{{wide(64, long(200))}, blocks(64, wide(64, long(200))), blocks(64, def(long(64), long(64), "v"))} {
		if s, e := Print(l); s != "" || e != api.ErrLong || !Right(l) {
			t.Errorf("of far too many bytes: %d, %d", len(s), e)
		}
	}
}

// P6.2: texts that are not as they must be, and the lines that are told.
func TestParseWrong(t *testing.T) {
	const a, k = "define a {\n", "\tk\tv\n"
	for s, at := range map[string]int{
		"x": 1, "x\n": 1, " x\n": 1, "\tk\tv\n": 1, "}\n": 1, "}": 1, "{\n": 1, "\r\n": 1, "\v\n": 1, "\x00\n": 1, "é\n": 1, "\xff\n": 1, "/\n": 1, "x # y\n": 1, "\xc2\xa0\n": 1,
		"define": 1, "define\n": 1, "define \n": 1, "define {\n": 1, "define  {\n": 1, "define a\n": 1, "define a{\n": 1, "define a {": 1, "define a { \n": 1, "define a {}\n": 1, "define a  {\n": 1, "define  a {\n": 1, "definea {\n": 1, " define a {\n": 1, "\tdefine a {\n": 1, "define\ta {\n": 1, "define a\t{\n": 1, "define a {\r\n": 1, "define a {\t\n": 1, "Define a {\n": 1, "define a (\n": 1, "define a {{\n": 1, "define a } {\n": 1, "define a { # x\n": 1, "define a {;\n": 1, "define a { {\n": 1, "define define a {\n": 1, " {\n": 1, "a {\n": 1,
		"define A {\n}\n": 1, "define a-b {\n}\n": 1, "define a b {\n}\n": 1, "define é {\n}\n": 1, "define " + long(65) + " {\n}\n": 1, "define a {\n}\ndefine B {\n}\n": 3, "define a.b {\n}\n": 1, "define #a {\n}\n": 1, "define ; {\n": 1,
		a: 2, a + k: 3, a + "\n": 3, a + "# x\n": 3, a + "}\n" + a: 4, a + "\n\n" + k + "# x\n": 6, "\n" + a: 3,
		a + "}": 2, a + k + "}": 3, a + "\tk\tv": 2, a + "\tk": 2, a + "\t": 2, a + "}\n# x": 3, a + "}\n ": 3, a + "}\n\t": 3, "#": 1, ";": 1, " ": 1, "\t": 1, "\n ": 2, "# x\n\n;": 3, a + "}\n}": 3, a + "# x": 2,
		a + "} \n": 2, a + " }\n": 2, a + "\t}\n": 2, a + "}\t\n": 2, a + "}\r\n": 2, a + "}}\n": 2, a + "};\n": 2, a + "} # x\n": 2, a + "{\n": 2, a + a: 2, a + a + "}\n": 2, a + k + a: 3, a + "}\n}\n": 3, a + "}\n" + k: 3, a + "}define b {\n": 2, a + "}\n" + k + "}\n": 3,
		a + "k v\n}\n": 2, a + "k\tv\n}\n": 2, a + " k\tv\n}\n": 2, a + "\tk v\n}\n": 2, a + "\tk\n}\n": 2, a + "\tk\t\n}\n": 2, a + "\tk\t\tv\n}\n": 2, a + "\t\tk\tv\n}\n": 2, a + "\t k\tv\n}\n": 2, a + "\tk \tv\n}\n": 2, a + "\tk\t v\n}\n": 2, a + "\tk\tv \n}\n": 2, a + "\tk\tv\t\n}\n": 2, a + "\tk\tv\r\n}\n": 2, a + "\tk\tv\tw\n}\n": 2, a + "\tk=v\n}\n": 2, a + "\t\tv\n}\n": 2, a + " \tk\tv\n}\n": 2, a + "    k    v\n}\n": 2,
		a + "\tK\tv\n}\n": 2, a + "\tk-l\tv\n}\n": 2, a + "\té\tv\n}\n": 2, a + "\t" + long(65) + "\tv\n}\n": 2, a + "\t}\tv\n}\n": 2, a + "\tk#\tv\n}\n": 2,
		a + "\tk\tv;\n}\n": 2, a + "\tk\tv ; x\n}\n": 2, a + "\tk\t;v\n}\n": 2, a + "\tk\t;\n}\n": 2, a + "\tk\té\n}\n": 2, a + "\tk\t\x7f\n}\n": 2, a + "\tk\tv\x1fw\n}\n": 2, a + "\tk\tv\x00\n}\n": 2, a + "\tk\t" + long(201) + "\n}\n": 2, a + "\tk\t \n}\n": 2, a + "\tk\tv" + strings.Repeat(" ", 199) + "w\n}\n": 2,
		a + k + k + "}\n": 3, a + k + "\tk\tw\n}\n": 3, a + k + "\tl\tv\n\tk\tv\n}\n": 4, a + k + "\n# x\n" + k + "}\n": 5, a + k + "}\n" + a + k + k: 6, "# x\n" + a + k + ";\n" + k: 5,
		a + k + k + "?\n": 3, a + "?\n" + k + k: 2, "?\n" + a: 1, "?\n?\n": 1, a + k + "?\n": 3, "# x\ndefine A {\n}\n": 2, a + k + k: 3, a + "?": 2, a + "?\n}": 2, "?\n# x": 1,
	} {
		if l, e, line := Parse(s); len(l) > 0 || e != api.ErrLine || line != at {
			t.Errorf("%.200q is read as %v, %d, %d, not at %d", s, l, e, line, at)
		}
		parsed(t, s)
	}
}

// P6.2: lines that are left out, wherever they are, whatever is in them.
func TestLeftOut(t *testing.T) {
	want := []api.Def{def("a", "k", "# v", "l", "w"), def("b")}
	for _, out := range []string{"\n", " \n", "\t\n", " \t \t\n", "#\n", ";\n", "# x\n", "; x\n", "  #\n", "\t;\n", "\t#k\tv\n", "\t;k\tv\n", " \t #;\n", ";}\n", "#}\n", "#define a {\n", "#\xff\x00\t\r\n", ";\xc3\r\n", "##\n", "\n#\n;\n", "# " + long(600) + "\n", strings.Repeat("#\n", 300), strings.Repeat(" ", 300) + strings.Repeat("\t", 300) + "\n"} {
		s := out + "define a {\n" + out + "\tk\t# v\n" + out + "\tl\tw\n" + out + "}\n" + out + "define b {\n" + out + "}\n" + out
		if l, e, line := Parse(s); !same(l, want) || e != api.OK || line != 0 {
			t.Errorf("%q is read as %v, %d, %d", s, l, e, line)
		}
		if l, e, line := Parse(out); len(l) > 0 || e != api.OK || line != 0 {
			t.Errorf("%q is read as %v, %d, %d", out, l, e, line)
		}
		parsed(t, s)
		parsed(t, s[:len(s)-1])
		parsed(t, s+"?\n")
		parsed(t, s+out+"define c {\n"+out)
		for i := 0; i < len(s); i += 1 + i/200 {
			parsed(t, s[:i])
			parsed(t, s[:i]+" "+s[i:])
			parsed(t, s[:i]+"\t"+s[i:])
			parsed(t, s[:i]+";"+s[i:])
		}
	}
}

// P6.2: each byte in a line, ahead of what is said, in its words, and behind.
func TestParseBytes(t *testing.T) {
	for b := range 256 {
		one := string([]byte{byte(b)})
		for _, s := range []string{"define a {\n\tk\tv w\n}\n", "define a {\n\tk\tv\n}\n# x\n;\n \n\n"} {
			for i := range len(s) + 1 {
				parsed(t, s[:i]+one+s[i:])
				if i < len(s) {
					parsed(t, s[:i]+one+s[i+1:])
				}
			}
		}
		for _, s := range []string{one, one + "\n", " " + one + "\n", "\t" + one + "x\n", one + " # x\n", one + "define a {\n}\n"} {
			parsed(t, s)
			parsed(t, "define b {\n"+s)
			parsed(t, "define b {\n"+s+"}\n")
		}
	}
}

// P6.2: how many blocks and keys there may be, and which line tells that there are more.
func TestMany(t *testing.T) {
	for many := 60; many < 70; many++ {
		all := strings.Repeat("define a {\n}\n", many)
		keys, with := "define a {\n", "define a {\n"
		for i := range many {
			keys += "\t" + key(i) + "\tv\n"
			with += "\t" + key(i) + "\tv\n# x\n"
		}
		for s, at := range map[string]int{all: 129, "\n" + all: 130, keys + "}\n": 66, with + "}\n": 130, "define b {\n}\n" + keys + "}\n": 68} {
			l, e, line := Parse(s)
			if many <= 64 && (e != api.OK || line != 0 || !Right(l)) || many > 64 && (len(l) > 0 || e != api.ErrLine || line != at) {
				t.Errorf("%.20q.. of %d: %d, %d", s, many, e, line)
			}
			parsed(t, s)
		}
		parsed(t, all+"define a {\n")
		parsed(t, keys)
		parsed(t, keys+"}\n"+keys+"}\n")
	}
	two := "define a {\n"
	for i := range 64 {
		two += "\t" + key(i) + "\tv\n"
	}
	two += "}\n"
	if l, e, line := Parse(two + two); len(l) != 2 || len(l[1].Keys) != 64 || e != api.OK || line != 0 {
		t.Errorf("two of 64 keys: %d, %d", e, line)
	}
	if l, e, line := Parse(strings.Repeat("define a {\n}\n", 64) + "define B {\n"); len(l) > 0 || e != api.ErrLine || line != 129 {
		t.Errorf("the 65th one is none: %d, %d", e, line)
	}
}

// P6.2: how long a text may be; that it is longer is told ahead of all else.
func TestParseLong(t *testing.T) {
	for _, head := range []string{"define a {\n}\n", "?\n", "define a {\n", ""} {
		for _, tail := range []string{"\n", "define b {\n}\n", "x", "}\n"} {
			for many := 8180; many < 8210; many++ {
				s := head + "#" + strings.Repeat("x", many-len(head)-len(tail)-2) + "\n" + tail
				if many <= 8192 {
					parsed(t, s)
				} else if l, e, line := Parse(s); len(l) > 0 || e != api.ErrLong || line != 0 {
					t.Errorf("of %d bytes: %v, %d, %d", len(s), l, e, line)
				}
			}
		}
	}
	for _, s := range []string{strings.Repeat("\n", 8193), strings.Repeat("define a {\n}\n", 1<<16), long(1 << 20), strings.Repeat("}\n", 1<<16)} {
		if l, e, line := Parse(s); len(l) > 0 || e != api.ErrLong || line != 0 {
			t.Errorf("of %d bytes: %v, %d, %d", len(s), l, e, line)
		}
	}
	for _, s := range []string{strings.Repeat("\n", 8192), strings.Repeat(";\n", 4096), strings.Repeat("\t", 8191) + "\n", strings.Repeat(" ", 8192), strings.Repeat("\n", 8191) + "x", "define " + strings.Repeat("a", 8182) + " {\n"} {
		parsed(t, s)
	}
}

// each goes through all texts of at the most so many pieces.
func each(pieces []string, most int, do func(s string)) {
	var extend func(s string, left int)
	extend = func(s string, left int) {
		do(s)
		if left == 0 {
			return
		}
		for _, piece := range pieces {
			extend(s+piece, left-1)
		}
	}
	extend("", most)
}

// P6.2, P6.3: each text of a few pieces that the form is made of, by itself, and in a block.
func TestShortTexts(t *testing.T) {
	read := 0
	each([]string{"\n", " ", "\t", "define ", "define a {\n", "a", " {\n", "}\n", "\tk\t", "v", "#", ";"}, 4, func(s string) {
		for _, text := range []string{s, s + "\n", s + "}\n", "define b {\n" + s, "define b {\n\tk\tv\n" + s + "}\n"} {
			if parsed(t, text) {
				read++
			}
		}
	})
	if read < 1000 {
		t.Errorf("%d were blocks", read)
	}
}

// P6.2, P6.3: each text of a few lines.
func TestFewLines(t *testing.T) {
	read := 0
	each([]string{"define a {\n", "define b {\n", "}\n", "\tk\tv\n", "\tl\tw x\n", "\n", "\t# x\n", " ;\n", "?\n", "\tk\tv;\n"}, 5, func(s string) {
		if parsed(t, s) {
			read++
		}
	})
	if read < 500 {
		t.Errorf("%d were blocks", read)
	}
}

// P6.3: blocks of any kind are read as they were written; what is read, changed here and there, is written the same, or refused.
func TestAnyTexts(t *testing.T) {
	r := rand.New(rand.NewSource(1))
	still, refused := 0, 0
	for range 20000 {
		l := randomBlocks(r)
		s, e := Print(l)
		if got, e2, line := Parse(s); !same(got, l) || e != api.OK || e2 != api.OK || line != 0 {
			t.Fatalf("%v, written, %q, %d, is read as %v, %d, %d", l, s, e, got, e2, line)
		}
		for range 4 {
			if parsed(t, changed(r, s)) {
				still++
			} else {
				refused++
			}
		}
	}
	if still < 2000 || refused < 2000 {
		t.Errorf("%d were blocks, %d were not", still, refused)
	}
}

// changed is a text of which something was changed.
func changed(r *rand.Rand, s string) string {
	b := []byte(s + "\n")
	at := r.Intn(len(b))
	switch r.Intn(4) {
	case 0:
		b[at] = " \t\n{}#;ab1A\xff"[r.Intn(12)]
	case 1:
		b = slices.Delete(b, at, at+1)
	case 2:
		b = slices.Insert(b, at, " \t\n{}#;ab1\x1f"[r.Intn(11)])
	case 3:
		lines := strings.SplitAfter(s, "\n")
		i, k := r.Intn(len(lines)), r.Intn(len(lines))
		lines[i], lines[k] = lines[k], lines[i]
		b = []byte(strings.Join(lines, ""))
	}
	return string(b)
}

// P1: texts of bytes of any kind.
func TestAnyBytes(t *testing.T) {
	r := rand.New(rand.NewSource(2))
	for range 20000 {
		b := make([]byte, r.Intn(40))
		r.Read(b)
		for _, s := range []string{string(b), string(b) + "\n", "define " + string(b) + " {\n}\n", "define a {\n\tk\t" + string(b) + "\n}\n", "define a {\n\t" + string(b) + "\tv\n}\n", "define a {\n" + string(b)} {
			parsed(t, s)
		}
	}
}

// Ways: what a reader may read next is a function, which each line that is not left out changes by its answer alone.
func TestStates(t *testing.T) {
	r := reader{may: outside}
	for _, c := range []struct {
		line string
		ends bool // whether the text may end behind the line
	}{{"# x\n", true}, {"define a {\n", false}, {"\n", false}, {"\tk\tv\n", false}, {"}\n", true}, {" \n", true}, {"define b {\n", false}, {"}\n", true}} {
		if !r.read(c.line) {
			t.Fatalf("%q is not as it must be", c.line)
		}
		if ends := r.may(&r, "") != nil; ends != c.ends {
			t.Errorf("behind %q it may end: %v", c.line, ends)
		}
	}
	other := reader{may: outside}
	if other.read("}\n") || !r.read("define c {\n") || !r.read("}\n") || len(r.blocks) != 3 || len(other.blocks) != 0 {
		t.Error(r.blocks, other.blocks)
	}
}
