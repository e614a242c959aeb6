package promfile

import (
	"fmt"
	"math/rand"
	"regexp"
	"slices"
	"strconv"
	"strings"
	"testing"

	"transhipment/api"
	"transhipment/outline"
)

var (
	aWord   = regexp.MustCompile(`^[a-z0-9_]{1,64}\z`)
	anExpr  = regexp.MustCompile(`^([a-z0-9_]{1,64}) (>|>=|<|<=|==) (0|-?[1-9][0-9]{0,17})\z`)
	aNumber = regexp.MustCompile(`^(0|[1-9][0-9]{0,17})\z`)
	aLabel  = regexp.MustCompile(`^[A-Za-z_][A-Za-z0-9_]{0,63}\z`)
	aValue  = regexp.MustCompile(`^[ -~]{1,64}\z`)
)

// isMap tells whether a node is a map of just some names, in order, whose items are of these kinds.
func isMap(n api.Node, names []string, kinds ...int) bool {
	if n.Kind != api.NMap || !slices.Equal(n.Names, names) {
		return false
	}
	for i, kind := range kinds {
		if n.Items[i].Kind != kind {
			return false
		}
	}
	return true
}

// trueRule is the rule of an item, read in another way: strictly, part by part.
func trueRule(n api.Node) (api.Rule, bool) {
	if !isMap(n, []string{"alert", "expr", "for", "keep", "labels"}, api.NWord, api.NWord, api.NWord, api.NWord, api.NRow) {
		return api.Rule{}, false
	}
	alert, held, long, keep, labels := n.Items[0].Word, anExpr.FindStringSubmatch(n.Items[1].Word), n.Items[2].Word, n.Items[3].Word, n.Items[4].Items
	if !aWord.MatchString(alert) || held == nil || !aNumber.MatchString(long) || !aNumber.MatchString(keep) || len(labels) > 4 {
		return api.Rule{}, false
	}
	r := api.Rule{Name: alert, Metric: held[1], How: slices.Index([]string{">", ">=", "<", "<=", "=="}, held[2]) + 1, Tries: 1}
	r.Limit, _ = strconv.Atoi(held[3])
	r.For, _ = strconv.Atoi(long)
	r.Keep, _ = strconv.Atoi(keep)
	if max(r.Limit, -r.Limit, r.For, r.Keep) > most {
		return api.Rule{}, false
	}
	last := ""
	for _, x := range labels {
		if !isMap(x, []string{"name", "value"}, api.NWord, api.NWord) {
			return api.Rule{}, false
		}
		name, value := x.Items[0].Word, x.Items[1].Word
		if !aLabel.MatchString(name) || !aValue.MatchString(value) || name <= last || name == "alert" {
			return api.Rule{}, false
		}
		r.Labels, last = append(r.Labels, api.Label{Name: name, Value: value}), name
	}
	return r, true
}

// trueImport is what a text is read as, found in another way.
func trueImport(s string) ([]api.Rule, api.Errno, int) {
	n, e, line := outline.Parse(s)
	if e != api.OK {
		return nil, e, line
	}
	if !isMap(n, []string{"rules"}, api.NRow) || len(n.Items[0].Items) < 1 || len(n.Items[0].Items) > 16 {
		return nil, api.ErrSchema, 0
	}
	var l []api.Rule
	seen := map[string]bool{}
	for i, x := range n.Items[0].Items {
		r, ok := trueRule(x)
		if !ok {
			return nil, api.ErrSchema, i + 1
		}
		if seen[r.Name] {
			return nil, api.ErrTwice, i + 1
		}
		seen[r.Name] = true
		l = append(l, r)
	}
	return l, api.OK, 0
}

// imported fails, if a text is not read as it must be, or what it is read as, written anew, is not; it tells the error.
func imported(t *testing.T, s string) api.Errno {
	t.Helper()
	want, wantE, wantAt := trueImport(s)
	l, e, at := Import(s)
	if !same(l, want) || e != wantE || at != wantAt {
		t.Fatalf("%s\nis read as %v, %d, %d, not as %v, %d, %d", s, l, e, at, want, wantE, wantAt)
	}
	if e == api.OK {
		taken(t, "read", l)
		if anew, e := Export(l); e != api.OK || len(anew) > len(s) {
			t.Fatalf("%s\nwritten anew is %s, %d", s, anew, e)
		}
	}
	return e
}

// told fails, if a text does not tell an error at a place.
func told(t *testing.T, s string, want api.Errno, place int) {
	t.Helper()
	if l, e, at := Import(s); len(l) > 0 || e != want || at != place {
		t.Errorf("%s\ntells %v, %d, %d, not %d, %d", s, l, e, at, want, place)
	}
	if e := imported(t, s); e != want {
		t.Errorf("%s\ntells %d, not %d", s, e, want)
	}
}

// changed is a text in which one thing, that is there just once, is another one.
func changed(t *testing.T, s, old, new string) string {
	t.Helper()
	if strings.Count(s, old) != 1 {
		t.Fatalf("%q is there %d times in\n%s", old, strings.Count(s, old), s)
	}
	return strings.Replace(s, old, new, 1)
}

// P11.2: rules stand in the order of their items; lines that say nothing are left out.
func TestImport(t *testing.T) {
	z := full("z")
	for _, l := range [][]api.Rule{{z}, {z, rule("a")}, {rule("b"), z, rule("a")}, {rule("rules")}, many(16)} {
		s := trueText(l)
		for _, text := range []string{s, "# a note\n\n" + s, s + "   \n", strings.ReplaceAll(s, "\n", "\n  # - alert: x\n")} {
			if got, e, at := Import(text); !same(got, l) || e != api.OK || at != 0 {
				t.Errorf("%s\nis read as %v, %d, %d", text, got, e, at)
			}
			imported(t, text)
		}
	}
}

// P11.2: what outline tells comes first.
func TestImportLines(t *testing.T) {
	s := trueText([]api.Rule{rule("a"), full("b"), rule("c")})
	for _, x := range []struct {
		text string
		at   int
	}{
		{"", 1},
		{"\n", 2},
		{"# a note\n", 2},
		{"rules:\n", 2},
		{"rules:\n  -\n", 3},
		{strings.TrimSuffix(s, "\n"), 25},
		{s + "x\n", 26},
		{s + "rules: []\n", 26},
		{s + "# not ended", 26},
		{"\n" + changed(t, s, "    alert: a\n", "   alert: a\n"), 4},
		{changed(t, s, "    alert: a\n", "    alert: a\n    alert: a\n"), 4},
		{changed(t, s, "alert: b\n", "alert: b \n"), 9},
		{changed(t, s, "alert: b\n", "alert: \"b\"\n"), 9}, // a word has one text
		{changed(t, s, "alert: b\n", "alert:\n"), 10},
		{changed(t, s, "alert: b\n", "Alert: b\n"), 9},
		{changed(t, s, `"cpu_1 <= -3"`, "cpu_1 <= -3"), 10},
		{changed(t, s, "value: 5", "value: \x7f"), 19},
		{changed(t, s, "alert: a\n", "alert: \"\"\n") + "x\n", 26}, // ahead of an item's fault
		{"other:\n  - 1\n- 2\n", 3},                                // ahead of another node
		{"rules:\n" + strings.Repeat("  - 1\n", 65), 66},
	} {
		told(t, x.text, api.ErrLine, x.at)
	}
	told(t, s+strings.Repeat("\n", 8193-len(s)), api.ErrLong, 0)
	told(t, strings.Repeat("\x00", 8193), api.ErrLong, 0)
	if got, e, at := Import(s + strings.Repeat("\n", 8192-len(s))); len(got) != 3 || e != api.OK || at != 0 {
		t.Error(got, e, at)
	}
	for _, bytes := range []int{8191, 8192} {
		if e := imported(t, trueText(ofBytes(t, bytes))); e != api.OK {
			t.Error(bytes, e)
		}
	}
	told(t, trueText(ofBytes(t, 8193)), api.ErrLong, 0)
}

// P11.2: nodes that are no map of just `rules`, a row of 1 to 16 items.
func TestImportSchema(t *testing.T) {
	s := trueText([]api.Rule{rule("a"), full("b")})
	for _, text := range []string{
		"rules: []\n", "rules: {}\n", "rules: x\n", "rules: \"\"\n", "a: []\n", "- []\n", "- rules\n",
		"rules:\n  a: b\n",
		"rules:\n  alert: a\n  expr: \"m > 5\"\n  for: 0\n  keep: 0\n  labels: []\n",
		strings.Replace(s, "rules:", "rule:", 1),
		strings.Replace(s, "rules:", "rules_:", 1),
		strings.Replace(s, "rules:", "-", 1),
		s + "more: []\n",
		"more: []\n" + s,
		s + strings.Replace(s, "rules:", "rule:", 1),
		strings.TrimPrefix(strings.ReplaceAll(s, "\n  ", "\n"), "rules:\n"),
		trueText(many(17)),
		trueText(many(20)),
		"rules:\n" + strings.Repeat("  - 1\n", 17), // ahead of each item's fault
		"rules:\n" + strings.Repeat("  - 1\n", 64),
		"more: []\nrules:\n  - 1\n",
	} {
		told(t, text, api.ErrSchema, 0)
	}
	told(t, "rules:\n"+strings.Repeat("  - 1\n", 16), api.ErrSchema, 1)
	if e := imported(t, trueText(many(16))); e != api.OK {
		t.Error(e)
	}
}

// wrongItems are an item that is as it must be, changed so that it is not.
func wrongItems(t *testing.T) []string {
	s := strings.TrimPrefix(trueText([]api.Rule{full("b")}), "rules:\n")
	items := []string{"  - []\n", "  - {}\n", "  - b\n", "  - \"\"\n", "  -\n    alert: b\n", strings.NewReplacer("    alert:", "    -", "    expr:", "    -", "    for:", "    -", "    keep:", "    -", "    labels:", "    -").Replace(s)}
	alert, expr, lasts, keep := "    alert: b\n", "    expr: \"cpu_1 <= -3\"\n", "    for: 1000\n", "    keep: 20\n"
	sev, five := "      -\n        name: Sev\n        value: \"very hi\"\n", "      -\n        name: t\n        value: 5\n"
	labels := "    labels:\n" + sev + five
	for _, x := range [][2]string{
		{alert, ""}, {expr, ""}, {lasts, ""}, {keep, ""}, {labels, ""}, // each one is there
		{alert + expr, expr + alert}, {expr + lasts, lasts + expr}, {lasts + keep, keep + lasts}, {keep + labels, labels + keep}, // in that order
		{alert, "    more: b\n" + alert}, {labels, labels + "    more: b\n"}, {labels, "    tries: 1\n" + labels}, // and no more
		{"alert:", "alerts:"}, {"expr:", "alert_:"}, {"for:", "four:"}, {"keep:", "kept:"}, {"labels:", "label:"},
		{"alert: b", "alert: \"\""}, {"alert: b", "alert: B"}, {"alert: b", "alert: " + long(65)}, {"alert: b", "alert: \"b \""}, {"alert: b", "alert: []"}, {"alert: b", "alert:\n      - b"}, {"alert: b", "alert:\n      b: b"},
		{"cpu_1 <=", "cpu_1  <="}, {"\"cpu_1", "\" cpu_1"}, {"-3\"", "-3 \""}, {"cpu_1 <= -3", "cpu_1 <=-3"}, {"cpu_1 <= -3", "cpu_1<= -3"}, {"cpu_1", "Cpu"}, {"cpu_1", long(65)}, {"cpu_1 ", ""}, {"\"cpu_1", "\""},
		{"<=", "="}, {"<=", "!="}, {"<=", "=<"}, {"<=", "< ="}, {"<=", "~"}, {" <=", ""}, {"<=", "\\\"<=\\\""},
		{"-3", "--3"}, {"-3", "+3"}, {"-3", "-0"}, {"-3", "03"}, {"-3", "-03"}, {"-3", "3.0"}, {"-3", "0x3"}, {"-3", "1e3"}, {"-3", "3_0"}, {"-3", "1099511627777"}, {"-3", "-1099511627777"}, {"-3", "18446744073709551616"}, {" -3", ""}, {"-3", ""}, {"-3", "x"}, {"-3", "-3 1"},
		{`"cpu_1 <= -3"`, `"-3 <= cpu_1"`}, {`"cpu_1 <= -3"`, "[]"}, {`"cpu_1 <= -3"`, "cpu_1"}, {`"cpu_1 <= -3"`, `""`}, {` "cpu_1 <= -3"`, "\n      - cpu_1\n      - \"<=\"\n      - \"-3\""},
		{"1000", "01000"}, {"1000", "\"-1\""}, {"1000", "\"+1\""}, {"1000", "1099511627777"}, {"1000", "\"\""}, {"1000", "1s"}, {"1000", "1.0"}, {"1000", "\" 1\""}, {"1000", "1_0"}, {"1000", "[]"}, {"1000", "\"1000 20\""}, {"1000", "9223372036854775808"},
		{"20", "020"}, {"20", "\"-1\""}, {"20", "\"+1\""}, {"20", "1099511627777"}, {"20", "\"\""}, {"20", "1s"}, {"20", "\"20 1\""}, {"20", "{}"}, {"20", "\"20 \""},
		{labels, "    labels: {}\n"}, {labels, "    labels: \"\"\n"}, {labels, "    labels: \"{}\"\n"}, {labels, "    labels: \"1 {}\"\n"}, {labels, "    labels:\n      sev: hi\n"}, {labels, "    labels:\n      name: sev\n      value: hi\n"},
		{sev, "      - []\n"}, {sev, "      - {}\n"}, {sev, "      - Sev\n"}, {sev, "      -\n        - Sev\n        - hi\n"}, {sev, "      -\n        name: Sev\n"}, {sev, "      -\n        value: hi\n"},
		{sev, "      -\n        value: hi\n        name: Sev\n"}, {sev, "      -\n        name: Sev\n        value: hi\n        more: x\n"}, {sev, "      -\n        more: x\n        name: Sev\n        value: hi\n"}, {sev, "      -\n        names: Sev\n        value: hi\n"}, {sev, "      -\n        name: []\n        value: hi\n"}, {sev, "      -\n        name: Sev\n        value: {}\n"}, {sev, "      -\n        name: Sev\n        value:\n          - hi\n"},
		{sev + five, five + sev}, {five, five + five}, {five, sev}, {"name: t", "name: alert"}, {"name: t", "name: \"\""}, {"name: t", "name: 5"}, {"name: t", "name: \"t t\""}, {"name: t", "name: " + long(65)}, {"value: 5", "value: \"\""}, {"value: 5", "value: " + long(65)},
		{five, five + strings.ReplaceAll(five, ": t", ": u") + strings.ReplaceAll(five, ": t", ": v") + strings.ReplaceAll(five, ": t", ": w")},
		{alert + expr, "    alert: \"b cpu_1\"\n    expr: \"<= -3\"\n"}, {alert + expr, "    alert: b\n    expr: \"cpu_1 <= -3 1000\"\n"}, // the same words, parted elsewhere
		{expr + lasts, "    expr: \"cpu_1 <=\"\n    for: \"-3 1000\"\n"}, {lasts + keep, "    for: \"1000 20\"\n    keep: []\n"}, {lasts + keep + labels, "    for: \"1000 20\"\n    keep: \"1 {}\"\n    labels: []\n"},
		{alert + expr + lasts + keep + labels, "    alert: \"b cpu_1 <= -3 1000 20 1 {}\"\n"}, {alert + expr + lasts + keep, "    alert: \"b cpu_1 <= -3 1000 20\"\n"},
		{keep + labels, "    keep: \"20 1 {}\"\n"}, {keep + labels, "    keep: 20\n    tries: 2\n    labels: \"{}\"\n"}, {keep + labels, "    keep: \"20 2\"\n    labels: \"{}\"\n"},
	} {
		items = append(items, changed(t, s, x[0], x[1]))
	}
	return items
}

// P11.2: items that are not as they must be, wherever they stand.
func TestImportItems(t *testing.T) {
	one := func(name string) string { return strings.TrimPrefix(trueText([]api.Rule{full(name)}), "rules:\n") }
	for _, wrong := range wrongItems(t) {
		told(t, "rules:\n"+wrong, api.ErrSchema, 1)
		told(t, "rules:\n"+wrong+one("a"), api.ErrSchema, 1)
		told(t, "rules:\n"+one("z")+wrong+one("a"), api.ErrSchema, 2)
		told(t, "rules:\n"+one("z")+one("a")+wrong, api.ErrSchema, 3)
		told(t, "rules:\n"+one("z")+wrong+wrong, api.ErrSchema, 2)
		told(t, "rules:\n"+one("b")+wrong+one("b"), api.ErrSchema, 2) // ahead of its name, and of what is behind it
		told(t, "rules:\n"+one("z")+one("z")+wrong, api.ErrTwice, 2)
	}
	sixteen := strings.TrimPrefix(trueText(many(15)), "rules:\n")
	told(t, "rules:\n"+sixteen+"  - x\n", api.ErrSchema, 16)
}

// P11.2: items of one name.
func TestImportTwice(t *testing.T) {
	for j := range 16 {
		for i := range j {
			l := many(16)
			l[j] = rule(l[i].Name)
			told(t, trueText(l), api.ErrTwice, j+1)
			for at := j + 1; at < 16; at++ {
				l[at] = l[j]
			}
			told(t, trueText(l), api.ErrTwice, j+1)
		}
	}
}

// P11.2: what may be, at each place where a word stands.
func TestImportRight(t *testing.T) {
	s := trueText([]api.Rule{full("b")})
	for _, x := range [][2]string{
		{"alert: b", "alert: " + long(64)}, {"alert: b", "alert: 0"}, {"cpu_1", long(64)}, {"cpu_1", "_"},
		{"<=", "<"}, {"<=", ">"}, {"<=", ">="}, {"<=", "=="}, {"-3", "3"}, {"-3", "0"}, {"-3", "1099511627776"}, {"-3", "-1099511627776"},
		{"1000", "0"}, {"1000", "1099511627776"}, {"20", "0"}, {"20", "1099511627776"},
		{"name: t", "name: alerts"}, {"name: t", "name: _"}, {"name: t", "name: " + long(64)}, {"value: 5", "value: " + long(64)}, {"value: 5", "value: \"\\\\\""}, {"value: 5", "value: \" \""},
	} {
		if e := imported(t, changed(t, s, x[0], x[1])); e != api.OK {
			t.Errorf("%q: %d", x, e)
		}
	}
}

// P11.2, P11.3: texts with each byte another one, left out, or more.
func TestImportBytes(t *testing.T) {
	b := full("b")
	b.Labels = pairs("s", `"`, "t", "5")
	s := trueText([]api.Rule{rule("a"), b})
	tells := map[api.Errno]int{}
	for i := range len(s) + 1 {
		for b := range 256 {
			one := string([]byte{byte(b)})
			tells[imported(t, s[:i]+one+s[i:])]++
			if i < len(s) {
				tells[imported(t, s[:i]+one+s[i+1:])]++
			}
		}
		tells[imported(t, s[:i])]++
		tells[imported(t, s[i:])]++
		if i < len(s) {
			tells[imported(t, s[:i]+s[i+1:])]++
		}
	}
	if tells[api.OK] < 1000 || tells[api.ErrSchema] < 1000 || tells[api.ErrLine] < 1000 || tells[api.ErrTwice] < 1 {
		t.Error(tells)
	}
}

// P11.2, P11.3: texts with lines that stand elsewhere, are left out, or are there more times.
func TestImportManyLines(t *testing.T) {
	random := rand.New(rand.NewSource(4))
	tells := map[api.Errno]int{}
	for range 20000 {
		l := randomRules(random)
		lines := strings.SplitAfter(trueText(l[:min(len(l), 1+random.Intn(4))]), "\n")
		for range random.Intn(3) {
			i, j := random.Intn(len(lines)), random.Intn(len(lines))
			switch random.Intn(4) {
			case 0:
				lines[i], lines[j] = lines[j], lines[i]
			case 1:
				lines[i] = ""
			case 2:
				lines[i] += lines[j]
			case 3:
				lines[i] = "#" + lines[i]
			}
		}
		tells[imported(t, strings.Join(lines, ""))]++
	}
	for _, e := range []api.Errno{api.OK, api.ErrSchema, api.ErrLine} {
		if tells[e] < 500 {
			t.Error(tells)
		}
	}
}

// variants are a node with one thing changed, anywhere in it.
func variants(n api.Node) []api.Node {
	l := []api.Node{{Kind: api.NRow}, {Kind: api.NMap}}
	for _, word := range []string{"", "0", "1", "b", "m > 5", "m  > 5", "{}", "1 {}", "alert", "A"} {
		l = append(l, api.Node{Kind: api.NWord, Word: word})
	}
	at := func(change func(x *api.Node)) {
		x := api.Node{Kind: n.Kind, Names: slices.Clone(n.Names), Items: slices.Clone(n.Items)}
		change(&x)
		l = append(l, x)
	}
	for i := range n.Items {
		for _, item := range variants(n.Items[i]) {
			at(func(x *api.Node) { x.Items[i] = item })
		}
		at(func(x *api.Node) { x.Items[i], x.Items[0] = x.Items[0], x.Items[i] })
		if n.Kind != api.NMap {
			at(func(x *api.Node) { x.Items = slices.Insert(x.Items, i, x.Items[i]) })
			at(func(x *api.Node) { x.Items = slices.Delete(x.Items, i, i+1) })
			continue
		}
		at(func(x *api.Node) { x.Items, x.Names = slices.Delete(x.Items, i, i+1), slices.Delete(x.Names, i, i+1) })
		at(func(x *api.Node) { x.Names[i], x.Names[0] = x.Names[0], x.Names[i] })
		at(func(x *api.Node) {
			x.Names[i], x.Names[0], x.Items[i], x.Items[0] = x.Names[0], x.Names[i], x.Items[0], x.Items[i]
		})
		at(func(x *api.Node) { x.Kind, x.Names = api.NRow, nil })
		for _, name := range []string{"alert", "expr", "for", "keep", "labels", "name", "value", "more"} {
			at(func(x *api.Node) { x.Names[i] = name })
			at(func(x *api.Node) {
				x.Names, x.Items = slices.Insert(x.Names, i, name), slices.Insert(x.Items, i, x.Items[i])
			})
			at(func(x *api.Node) { x.Names, x.Items = append(x.Names, name), append(x.Items, x.Items[i]) })
		}
	}
	return l
}

// P11.2: nodes of which one thing, or two, are changed anywhere.
func TestImportNodes(t *testing.T) {
	n, e, _ := outline.Parse(trueText([]api.Rule{rule("a"), full("b")}))
	if e != api.OK {
		t.Fatal(e)
	}
	tells := map[api.Errno]int{}
	random := rand.New(rand.NewSource(5))
	try := func(n api.Node) {
		if s, e := outline.Print(n); e == api.OK {
			tells[imported(t, s)]++
		}
	}
	for _, x := range variants(n) {
		try(x)
		more := variants(x)
		for range 20 {
			try(more[random.Intn(len(more))])
		}
	}
	if tells[api.OK] < 50 || tells[api.ErrSchema] < 1000 || tells[api.ErrTwice] < 5 {
		t.Error(tells)
	}
}

// P11.3: texts of rules in any order, with notes, written anew, are read as the same rules, by their names.
func TestImportAnew(t *testing.T) {
	random := rand.New(rand.NewSource(6))
	for range 3000 {
		l := randomRules(random)
		s := strings.ReplaceAll(trueText(l), "\n  -\n", fmt.Sprintf("\n%s# note\n  -\n", strings.Repeat(" ", random.Intn(9))))
		if len(s) > 8192 {
			continue
		}
		got, e, at := Import(s)
		if !same(got, l) || e != api.OK || at != 0 {
			t.Fatalf("%s\nis read as %v, %d, %d", s, got, e, at)
		}
		anew, e := Export(got)
		if anew != trueText(byName(l)) || e != api.OK {
			t.Fatalf("%s\nwritten anew is %s, %d", s, anew, e)
		}
		if again, e, at := Import(anew); !same(again, byName(l)) || e != api.OK || at != 0 {
			t.Fatalf("%s\nis read anew as %v, %d, %d", s, again, e, at)
		}
	}
}

// P1: any bytes are read.
func TestImportAny(t *testing.T) {
	random := rand.New(rand.NewSource(7))
	pieces := []string{"rules:", "-", "  -", "    alert: a", "    expr: \"m > 5\"", "    for: 0", "    keep: 0", "    labels: []", "    labels:", "      -", "        name: n", "        value: v", "\n", " ", "  ", "#", "\"", "\\", "\x00", "\xff", ":", "[]", "{}"}
	for range 50000 {
		s := ""
		for range random.Intn(14) {
			s += pieces[random.Intn(len(pieces))]
			if random.Intn(4) > 0 {
				s += "\n"
			}
		}
		imported(t, s)
	}
	for range 20000 {
		s := make([]byte, random.Intn(60))
		random.Read(s)
		imported(t, string(s))
	}
}
