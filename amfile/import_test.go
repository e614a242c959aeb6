package amfile

import (
	"math/rand"
	"regexp"
	"slices"
	"strconv"
	"strings"
	"testing"

	"transhipment/api"
	"transhipment/config"
	"transhipment/outline"
)

var (
	aMatcher = regexp.MustCompile(`^([A-Za-z0-9_]*)(=|!=|=~|!~)"(.*)"\z`)
	aSpan    = regexp.MustCompile(`^([a-z,]*) (\d\d):(\d\d)-(\d\d):(\d\d)\z`)
)

// item is a map's item of a name, whatever kind it is of, or nothing.
func item(n api.Node, name string) api.Node {
	i := slices.Index(n.Names, name)
	if i < 0 {
		return api.Node{}
	}
	return n.Items[i]
}

// loosely is what is read of each item of a map's item of a name.
func loosely[T any](n api.Node, name string, read func(api.Node) T) []T {
	var l []T
	for _, x := range item(n, name).Items {
		l = append(l, read(x))
	}
	return l
}

func looseWord(n api.Node) string { return n.Word }

func looseNumber(s string) int {
	n, _ := strconv.Atoi(s)
	return n
}

func looseMatcher(n api.Node) api.Matcher {
	parts := aMatcher.FindStringSubmatch(n.Word)
	if parts == nil {
		return api.Matcher{}
	}
	return api.Matcher{Name: parts[1], How: slices.Index([]string{"", "=", "!=", "=~", "!~"}, parts[2]), Words: strings.Split(parts[3], "|")}
}

func looseRoute(n api.Node) api.Route {
	number := func(name string) int { return looseNumber(item(n, name).Word) }
	return api.Route{
		Receiver: item(n, "receiver").Word, Match: loosely(n, "matchers", looseMatcher), By: loosely(n, "group_by", looseWord),
		Wait: number("group_wait"), Every: number("group_interval"), Repeat: number("repeat_interval"),
		Mute: loosely(n, "mute", looseWord), On: item(n, "continue").Word == "true", Routes: loosely(n, "routes", looseRoute),
	}
}

func looseInhibit(n api.Node) api.Inhibit {
	return api.Inhibit{Source: loosely(n, "source", looseMatcher), Target: loosely(n, "target", looseMatcher), Equal: loosely(n, "equal", looseWord)}
}

func looseHours(n api.Node) api.Hours {
	h := api.Hours{Name: item(n, "name").Word}
	if parts := aSpan.FindStringSubmatch(item(n, "span").Word); parts != nil {
		for i, day := range []string{"mon", "tue", "wed", "thu", "fri", "sat", "sun"} {
			if strings.Contains(parts[1], day) {
				h.Days |= 1 << i
			}
		}
		h.From, h.To = looseNumber(parts[2])*60+looseNumber(parts[3]), looseNumber(parts[4])*60+looseNumber(parts[5])
	}
	return h
}

// trueImport is what a text is read as, found in another way: whatever is there is taken, and refused, if it is not written so.
func trueImport(s string) (api.Config, api.Errno, int) {
	n, e, line := outline.Parse(s)
	if e != api.OK {
		return api.Config{}, e, line
	}
	c := api.Config{
		Route:     looseRoute(item(n, "route")),
		Receivers: loosely(n, "receivers", looseWord),
		Inhibits:  loosely(n, "inhibit_rules", looseInhibit),
		Hours:     loosely(n, "time_intervals", looseHours),
	}
	text, _ := outline.Print(n)
	if !config.Right(c) || trueText(c) != text {
		return api.Config{}, api.ErrSchema, 0
	}
	return c, api.OK, 0
}

// imported fails, if a text is not read as it must be, or what it is read as, written anew, is not its normal form; it tells the error.
func imported(t *testing.T, s string) api.Errno {
	t.Helper()
	want, wantE, wantAt := trueImport(s)
	c, e, at := Import(s)
	if !same(c, want) || len(c.Rules) > 0 || e != wantE || at != wantAt {
		t.Fatalf("%s\nis read as %v, %d, %d, not as %v, %d, %d", s, c, e, at, want, wantE, wantAt)
	}
	if e == api.OK {
		taken(t, "read", c)
		if anew, e := Export(c); e != api.OK || len(anew) > len(s) || !config.Same(c, want) {
			t.Fatalf("%s\nwritten anew is %s, %d", s, anew, e)
		}
	}
	return e
}

// told fails, if a text does not tell an error at a place.
func told(t *testing.T, s string, want api.Errno, place int) {
	t.Helper()
	if c, e, at := Import(s); !same(c, api.Config{}) || e != want || at != place {
		t.Errorf("%s\ntells %v, %d, %d, not %d, %d", s, c, e, at, want, place)
	}
	if e := imported(t, s); e != want {
		t.Errorf("%s\ntells %d, not %d", s, e, want)
	}
}

// changed is a text in which one thing, that is there just once, is another one.
func changed(t *testing.T, s, old, new string) string {
	t.Helper()
	if strings.Count(s, old) != 1 {
		t.Fatalf("%q is there %d times in\n%s", old, strings.Count(s, old), s)
	}
	return strings.Replace(s, old, new, 1)
}

// P12.2, P12.3: receivers, inhibits and hours stand in the order in which they are read; lines that say nothing are left out.
func TestImport(t *testing.T) {
	random := rand.New(rand.NewSource(3))
	l := []api.Config{small(), full(), trueNormal(full())}
	for range 300 {
		l = append(l, shuffled(random, full()))
	}
	for _, c := range l {
		s := trueText(c)
		for _, text := range []string{s, "# a note\n\n" + s, s + "   \n", strings.ReplaceAll(s, "\n", "\n #\n")} {
			if got, e, at := Import(text); !same(got, c) || e != api.OK || at != 0 {
				t.Errorf("%s\nis read as %v, %d, %d", text, got, e, at)
			}
			imported(t, text)
		}
	}
}

// P12.2: inhibits may be there more than once, but not more of them than there may be; receivers and hours may not.
func TestImportTwice(t *testing.T) {
	for how := 1; how <= 12; how++ {
		c := full()
		c.Inhibits = append(slices.Repeat(c.Inhibits[1:2], how-1), c.Inhibits[0])
		if how > 8 {
			told(t, trueText(c), api.ErrSchema, 0)
		} else if e := imported(t, trueText(c)); e != api.OK {
			t.Error(how, e)
		}
	}
	for i := range 4 {
		c := full()
		c.Receivers = append(c.Receivers, c.Receivers[i])
		told(t, trueText(c), api.ErrSchema, 0)
		c = full()
		c.Hours = append(c.Hours, c.Hours[i%3])
		told(t, trueText(c), api.ErrSchema, 0)
		c.Hours[3].Days = 1
		told(t, trueText(c), api.ErrSchema, 0)
	}
}

// P12.2: what outline tells comes first.
func TestImportLines(t *testing.T) {
	s := trueText(small())
	for _, x := range []struct {
		text string
		at   int
	}{
		{"", 1},
		{"\n", 2},
		{"# a note\n", 2},
		{"route:\n", 2},
		{"route:\n  routes:\n    -\n", 4},
		{strings.TrimSuffix(s, "\n"), 14},
		{s + "x\n", 15},
		{s + "route: []\n", 15},
		{s + "# not ended", 15},
		{"\n" + changed(t, s, "  mute:", " mute:"), 9},
		{changed(t, s, "  mute: []\n", "  mute: []\n  mute: []\n"), 9},
		{changed(t, s, "  mute: []\n", "  mute: [] \n"), 8},
		{changed(t, s, "  mute: []\n", "  mute:\n"), 9},
		{changed(t, s, "receiver: ops", "receiver: \"ops\""), 2}, // a word has one text
		{changed(t, s, "receiver: ops", "receiver: \x7f"), 2},
		{changed(t, s, "receiver: ops", "Receiver: ops"), 2},
		{changed(t, s, "receiver: ops", "receiver: \"\"") + "x\n", 15}, // ahead of a fault further up
		{"other:\n  - 1\n- 2\n", 3},                                    // ahead of another node
		{changed(t, s, "  mute: []\n", "  mute:\n"+strings.Repeat("    - 1\n", 65)), 73},
		{changed(t, s, "  routes: []\n", "  routes:\n    -\n      routes:\n        -\n          routes:\n            -\n              a: b\n"), 15}, // 4 deep
	} {
		told(t, x.text, api.ErrLine, x.at)
	}
	told(t, s+strings.Repeat("\n", 8193-len(s)), api.ErrLong, 0)
	told(t, strings.Repeat("\x00", 8193), api.ErrLong, 0)
	if got, e, at := Import(s + strings.Repeat("\n", 8192-len(s))); !same(got, small()) || e != api.OK || at != 0 {
		t.Error(got, e, at)
	}
	for _, bytes := range []int{8191, 8192} {
		if e := imported(t, trueText(ofBytes(t, bytes))); e != api.OK {
			t.Error(bytes, e)
		}
	}
	told(t, trueText(ofBytes(t, 8193)), api.ErrLong, 0)
}

// P12.2: texts of configurations that can't be said so.
func TestImportWrong(t *testing.T) {
	tells := map[api.Errno]int{}
	for _, c := range wrong() {
		tells[imported(t, trueText(c))]++
	}
	if tells[api.ErrSchema] < 40 || tells[api.ErrLine] < 5 || tells[api.OK] > 2 { // matchers of no words are written as those of an empty one
		t.Error(tells)
	}
}

// P12.2: nodes of which one entry is not as it must be.
func TestImportSchema(t *testing.T) {
	s := trueText(full())
	route := s[:strings.Index(s, "receivers:")]
	receivers := s[len(route):strings.Index(s, "inhibit_rules:")]
	inhibits := s[strings.Index(s, "inhibit_rules:"):strings.Index(s, "time_intervals:")]
	times := s[strings.Index(s, "time_intervals:"):]
	for _, text := range []string{
		"route: []\n", "- []\n", "- route\n", "a: b\n", "route: {}\nreceivers: []\ninhibit_rules: []\ntime_intervals: []\n",
		strings.TrimPrefix(strings.ReplaceAll(route, "\n  ", "\n"), "route:\n"),
		receivers + inhibits + times, route + inhibits + times, route + receivers + times, route + receivers + inhibits, // each is there
		receivers + route + inhibits + times, route + inhibits + receivers + times, route + receivers + times + inhibits, // in that order
		s + "more: []\n", "more: []\n" + s, route + "global: {}\n" + receivers + inhibits + times, // and no more
		s + "rules: []\n",
		strings.Replace(s, "route:", "routes:", 1),
		strings.Replace(s, "receivers:", "receiver:", 1),
		strings.Replace(s, "inhibit_rules:", "inhibits:", 1),
		strings.Replace(s, "time_intervals:", "time_interval:", 1),
		"-\n" + route[len("route:\n"):] + "-\n  - ops\n- []\n- []\n", // a row of what it is a map of
	} {
		told(t, text, api.ErrSchema, 0)
	}
	for _, x := range [][2]string{
		{receivers, "receivers: []\n"}, {receivers, "receivers: {}\n"}, {receivers, "receivers: ops\n"}, {receivers, "receivers:\n  ops: dev\n"},
		{inhibits, "inhibit_rules: {}\n"}, {inhibits, "inhibit_rules: \"\"\n"}, {inhibits, "inhibit_rules:\n  - []\n"}, {inhibits, "inhibit_rules:\n  - {}\n"}, {inhibits, "inhibit_rules:\n  - x\n"}, {inhibits, "inhibit_rules:\n  source:\n    - x\n"},
		{times, "time_intervals: []\n"}, {times, "time_intervals: {}\n"}, {times, "time_intervals:\n  - night\n"}, {times, "time_intervals:\n  name: night\n"},
		{route, "route: ops\n"}, {route, "route: []\n"}, {route, "route: {}\n"}, {route, "route:\n  receiver: ops\n"}, {route, "route:\n  - ops\n"},
		{"  - all\n", "  - all\n  - []\n"}, {"  - all\n", "  - all\n  - {}\n"}, {"  - all\n", "  - \"\"\n"}, {"  - all\n", "  - All\n"}, {"  - all\n", "  - \"a b\"\n"}, {"  - all\n", "  -\n    - all\n"}, {"  - all\n", "  -\n    name: all\n"},
	} {
		told(t, changed(t, s, x[0], x[1]), api.ErrSchema, 0)
	}
}

// ofOne is a configuration of which each row of maps has one, each word is there just once.
func ofOne() api.Config {
	within := api.Route{Receiver: "dev", Match: []api.Matcher{is("a", "7")}, By: []string{"sev", "team"}, Wait: 1003, Every: 2004, Repeat: 3005, Mute: []string{"night"}, On: true}
	c := api.Config{Route: route("ops", within), Receivers: []string{"ops", "dev"}, Hours: []api.Hours{{Name: "night", Days: 3, To: 360}}}
	c.Inhibits = []api.Inhibit{{Source: []api.Matcher{is("b", "2")}, Target: []api.Matcher{{Name: "c", How: api.MOne, Words: []string{"1", "3"}}}, Equal: []string{"host", "job"}}}
	return c
}

// P12.2: entries of routes within the top one that are not as they must be.
func TestImportRoutes(t *testing.T) {
	s := trueText(ofOne())
	in := "\n      "
	for _, x := range [][2]string{
		{in + "receiver: dev", ""}, {in + "matchers:\n        - \"a=\\\"7\\\"\"", ""}, {in + "group_wait: 1003", ""}, {in + "group_interval: 2004", ""}, {in + "repeat_interval: 3005", ""}, {in + "mute:\n        - night", ""}, {in + "continue: true", ""}, {in + "routes: []", ""},
		{in + "group_wait: 1003" + in + "group_interval: 2004", in + "group_interval: 2004" + in + "group_wait: 1003"},
		{in + "continue: true" + in + "routes: []", in + "routes: []" + in + "continue: true"},
		{in + "routes: []", in + "routes: []" + in + "more: x"}, {in + "receiver: dev", in + "match: []" + in + "receiver: dev"},
		{"receiver: dev", "receiver: no"}, {"receiver: dev", "receiver: []"}, {"receiver: dev", "receiver: \"\""}, {"receiver: dev", "receiver: Dev"}, {"receiver: dev", "receiver: \"dev \""}, {"receiver: dev", "receiver:\n        - dev"}, {"receiver: dev", "receiver:\n        dev: dev"}, {"receiver: dev", "receiver_: dev"}, {"receiver: dev", "receivers: dev"},
		{"1003", "01003"}, {"1003", "\"-1\""}, {"1003", "\"-0\""}, {"1003", "\"+1003\""}, {"1003", "1_003"}, {"1003", "0x3"}, {"1003", "1e3"}, {"1003", "1s"}, {"1003", "1.0"}, {"1003", "\" 1003\""}, {"1003", "\"1003 \""}, {"1003", "\"\""}, {"1003", "[]"}, {"1003", "{}"}, {"1003", "00"}, {"1003", "1099511627777"}, {"1003", "9223372036854775808"}, {"1003", "18446744073709551616"}, {"1003", "99999999999999999999999999"}, {" 1003", "\n        - 1003"},
		{"2004", "0"}, {"2004", "02004"}, {"2004", "1099511627777"}, {"2004", "\"-1\""}, {"2004", "x"}, {"2004", "\"\""}, {"2004", "[]"},
		{"3005", "0"}, {"3005", "03005"}, {"3005", "1099511627777"}, {"3005", "\"-1\""}, {"3005", "x"}, {"3005", "\"\""}, {"3005", "{}"},
		{"true", "yes"}, {"true", "True"}, {"true", "TRUE"}, {"true", "t"}, {"true", "1"}, {"true", "0"}, {"true", "on"}, {"true", "\"\""}, {"true", "\"true \""}, {"true", "\" true\""}, {"true", "\"true false\""}, {"true", "[]"}, {"true", "{}"}, {"true", "truefalse"}, {"true", "fals"}, {"true", "False"}, {" true", "\n        - true"},
		{"\"a=\\\"7\\\"\"", "a"}, {"a=\\\"7\\\"", "a=7"}, {"a=\\\"7\\\"", "a = \\\"7\\\""}, {"a=\\\"7\\\"", "a==\\\"7\\\""}, {"a=\\\"7\\\"", "a!\\\"7\\\""}, {"a=\\\"7\\\"", "a=\\\"7|8\\\""}, {"a=\\\"7\\\"", "a=~\\\"8|7\\\""}, {"a=\\\"7\\\"", "a=~\\\"7|7\\\""}, {"a=\\\"7\\\"", "=\\\"7\\\""}, {"a=\\\"7\\\"", "1=\\\"7\\\""}, {"a=\\\"7\\\"", "a=\\\"7\\\" "}, {"a=\\\"7\\\"", "a=\\\"7 \\\""}, {"a=\\\"7\\\"", ""}, {"\"a=\\\"7\\\"\"", "[]"}, {"a=\\\"7\\\"", "a=\\\"7\\\",b=\\\"8\\\""}, {"a=\\\"7\\\"", "{a=\\\"7\\\"}"},
		{in + "matchers:\n        - \"a=\\\"7\\\"\"", in + "matchers: {}"}, {in + "matchers:\n        - \"a=\\\"7\\\"\"", in + "matchers: \"a=\\\"7\\\"\""}, {in + "matchers:\n        - \"a=\\\"7\\\"\"", in + "matchers:\n        a: 7"},
		{"- sev", "- team"}, {"- sev", "- z"}, {"- sev", "- 1"}, {"- sev", "- \"\""}, {"- sev", "- []"}, {"- sev", "- \"s v\""}, {"- sev", "- s-v"}, {"- sev", "-\n          name: sev"}, {"- sev\n        - team", "- \"sev team\""}, {"- sev\n        - team", "- sev\n        - sev"},
		{in + "mute:\n        - night", in + "mute: night"}, {in + "mute:\n        - night", in + "mute: {}"}, {in + "mute:\n        - night", in + "mute:\n        - day"}, {in + "mute:\n        - night", in + "mute:\n        - night\n        - night"}, {in + "mute:\n        - night", in + "mute:\n        - []"},
		{in + "routes: []", in + "routes: {}"}, {in + "routes: []", in + "routes: \"\""}, {in + "routes: []", in + "routes:\n        - []"}, {in + "routes: []", in + "routes:\n        - dev"}, {in + "routes: []", in + "routes:\n        receiver: dev"}, {in + "routes: []", in + "routes:\n        -\n          receiver: dev"},
	} {
		told(t, changed(t, s, x[0], x[1]), api.ErrSchema, 0)
	}
	for _, x := range [][2]string{{"  matchers: []\n", "  matchers:\n    - \"a=\\\"1\\\"\"\n"}, {"  continue: false\n", "  continue: true\n"}} { // of the top one alone
		told(t, changed(t, s, x[0], x[1]), api.ErrSchema, 0)
	}
}

// P12.2: inhibits and hours that are not as they must be.
func TestImportInhibits(t *testing.T) {
	s := trueText(ofOne())
	source, target, equal := "    source:\n      - \"b=\\\"2\\\"\"\n", "    target:\n      - \"c=~\\\"1|3\\\"\"\n", "    equal:\n      - host\n      - job\n"
	name, span := "    name: night\n", "    span: \"mon,tue 00:00-06:00\"\n"
	for _, x := range [][2]string{
		{source, ""}, {target, ""}, {equal, ""}, {source + target, target + source}, {target + equal, equal + target}, {equal, equal + "    more: []\n"}, {source, "    name: x\n" + source},
		{source, "    source: []\n"}, {source, "    source: {}\n"}, {source, "    source: \"b=\\\"2\\\"\"\n"}, {source, "    source:\n      b: 2\n"}, {source, "    sources:\n      - \"b=\\\"2\\\"\"\n"},
		{target, "    target: []\n"}, {target, "    target: {}\n"}, {target, "    target:\n      - []\n"}, {"1|3", "3|1"}, {"1|3", "1|1"}, {"1|3", "1 3"}, {"c=~", "c=="}, {"c=~", "c="}, {"c=~", "c~"}, {"\"c=~", "\"=~"},
		{equal, "    equal: {}\n"}, {equal, "    equal: host\n"}, {"- host", "- job"}, {"- host", "- z"}, {"- host", "- \"\""}, {"- host", "- []"}, {"- host", "- 0"}, {"- job\n", "- job\n      - job\n"},
		{name, ""}, {span, ""}, {name + span, span + name}, {span, span + "    more: x\n"}, {name, "    more: x\n" + name}, {name, "    names: night\n"}, {span, "    times: \"mon,tue 00:00-06:00\"\n"},
		{"name: night", "name: \"\""}, {"name: night", "name: x"}, {"name: night", "name: Night"}, {"name: night", "name: []"}, {"name: night", "name:\n      - night"},
		{"mon,tue", "tue,mon"}, {"mon,tue", "mon,mon"}, {"mon,tue", "mon,Tue"}, {"mon,tue", "mon tue"}, {"\"mon,tue 00:00-06:00\"", "00:00-06:00"}, {"mon,tue ", " "}, {"mon,tue ", "mon,tue  "}, {"mon,tue ", "mon,tue,"}, {"mon,tue", ",mon,tue"}, {"00:00-", "0:00-"}, {"-06:00", "-6:00"}, {"-06:00", "-24:01"}, {"-06:00", "-00:00"}, {"-06:00", "-06:60"}, {"-06:00", ""}, {"-06:00", "-06:00 "}, {"-06:00", "- 06:00"},
		{"span: \"mon,tue 00:00-06:00\"", "span: []"}, {"span: \"mon,tue 00:00-06:00\"", "span: \"\""}, {"span: \"mon,tue 00:00-06:00\"", "span:\n      - \"mon,tue 00:00-06:00\""},
		{name + span, "    - night\n"}, {"  -\n" + name + span, "  - []\n"}, {"  -\n" + source + target + equal, "  - {}\n"}, {"  -\n" + source + target + equal, "  - x\n"},
	} {
		told(t, changed(t, s, x[0], x[1]), api.ErrSchema, 0)
	}
}

// P12.2: what may be, at each place where a word stands.
func TestImportRight(t *testing.T) {
	s := trueText(ofOne())
	for _, x := range [][2]string{
		{"receiver: dev", "receiver: ops"}, {"1003", "0"}, {"1003", "1099511627776"}, {"2004", "1"}, {"2004", "1099511627776"}, {"3005", "1"}, {"3005", "1099511627776"}, {"true", "false"},
		{"a=\\\"7\\\"", "a!=\\\"7\\\""}, {"a=\\\"7\\\"", "a=~\\\"7\\\""}, {"a=\\\"7\\\"", "a!~\\\"|7|8\\\""}, {"a=\\\"7\\\"", "a=\\\"\\\""}, {"a=\\\"7\\\"", "_0=\\\"a/b:c.d-e\\\""},
		{"- sev", "- A"}, {"- sev", "- " + long(64)}, {"- \"a=\\\"7\\\"\"", "- \"a=\\\"7\\\"\"\n        - \"a=\\\"7\\\"\""}, {"\n        - \"a=\\\"7\\\"\"", " []"},
		{"\n        - night", " []"}, {"\n        - sev\n        - team", " []"}, {"\n      - host\n      - job", " []"}, {"- host", "- _"}, {"1|3", "1"}, {"1|3", "|0|1"}, {"- dev\n", "- dev\n  - " + long(64) + "\n"},
		{"mon,tue", "mon"}, {"mon,tue", "sat,sun"}, {"06:00", "24:00"}, {"00:00", "05:59"}, {"  - ops\n  - dev\n", "  - dev\n  - ops\n"},
	} {
		if e := imported(t, changed(t, s, x[0], x[1])); e != api.OK {
			t.Errorf("%q: %d", x, e)
		}
	}
}

// P12.2, P12.3: texts with each byte another one, left out, or more.
func TestImportBytes(t *testing.T) {
	s := trueText(ofOne())
	tells := map[api.Errno]int{}
	for i := range len(s) + 1 {
		for _, b := range []byte("\x00\t\n !\"#,-.0159:=AZ[\\]_az{|}~\x7f\xff") {
			one := string([]byte{b})
			tells[imported(t, s[:i]+one+s[i:])]++
			if i < len(s) {
				tells[imported(t, s[:i]+one+s[i+1:])]++
			}
		}
		tells[imported(t, s[:i])]++
		tells[imported(t, s[i:])]++
		if i < len(s) {
			tells[imported(t, s[:i]+s[i+1:])]++
		}
	}
	if tells[api.OK] < 500 || tells[api.ErrSchema] < 1000 || tells[api.ErrLine] < 1000 {
		t.Error(tells)
	}
}

// P12.2, P12.3: texts with lines that stand elsewhere, are left out, or are there more times.
func TestImportManyLines(t *testing.T) {
	random := rand.New(rand.NewSource(4))
	tells := map[api.Errno]int{}
	for range 10000 {
		s := trueText(randomConfig(random))
		if len(s) > 2000 {
			continue
		}
		lines := strings.SplitAfter(s, "\n")
		for range random.Intn(3) {
			i, j := random.Intn(len(lines)), random.Intn(len(lines))
			switch random.Intn(4) {
			case 0:
				lines[i], lines[j] = lines[j], lines[i]
			case 1:
				lines[i] = ""
			case 2:
				lines[i] += lines[j]
			case 3:
				lines[i] = "#" + lines[i]
			}
		}
		tells[imported(t, strings.Join(lines, ""))]++
	}
	for _, e := range []api.Errno{api.OK, api.ErrSchema, api.ErrLine} {
		if tells[e] < 300 {
			t.Error(tells)
		}
	}
}

// variants are a node with one thing changed, anywhere in it.
func variants(n api.Node) []api.Node {
	l := []api.Node{{Kind: api.NRow}, {Kind: api.NMap}}
	for _, word := range []string{"", "0", "1", "ops", "night", "true", `a="1"`, "mon 00:00-01:00", "a"} {
		l = append(l, api.Node{Kind: api.NWord, Word: word})
	}
	at := func(change func(x *api.Node)) {
		x := api.Node{Kind: n.Kind, Names: slices.Clone(n.Names), Items: slices.Clone(n.Items)}
		change(&x)
		l = append(l, x)
	}
	for i := range n.Items {
		for _, item := range variants(n.Items[i]) {
			at(func(x *api.Node) { x.Items[i] = item })
		}
		at(func(x *api.Node) { x.Items[i], x.Items[0] = x.Items[0], x.Items[i] })
		if n.Kind != api.NMap {
			at(func(x *api.Node) { x.Items = slices.Insert(x.Items, i, x.Items[i]) })
			at(func(x *api.Node) { x.Items = slices.Delete(x.Items, i, i+1) })
			continue
		}
		at(func(x *api.Node) { x.Items, x.Names = slices.Delete(x.Items, i, i+1), slices.Delete(x.Names, i, i+1) })
		at(func(x *api.Node) { x.Names[i], x.Names[0] = x.Names[0], x.Names[i] })
		at(func(x *api.Node) {
			x.Names[i], x.Names[0], x.Items[i], x.Items[0] = x.Names[0], x.Names[i], x.Items[0], x.Items[i]
		})
		at(func(x *api.Node) { x.Kind, x.Names = api.NRow, nil })
		for _, name := range []string{"route", "receivers", "receiver", "mute", "routes", "source", "equal", "name", "more"} {
			at(func(x *api.Node) { x.Names[i] = name })
			at(func(x *api.Node) {
				x.Names, x.Items = slices.Insert(x.Names, i, name), slices.Insert(x.Items, i, x.Items[i])
			})
			at(func(x *api.Node) { x.Names, x.Items = append(x.Names, name), append(x.Items, x.Items[i]) })
		}
	}
	return l
}

// P12.2: nodes of which one thing, or two, are changed anywhere.
func TestImportNodes(t *testing.T) {
	n, e, _ := outline.Parse(trueText(ofOne()))
	if e != api.OK {
		t.Fatal(e)
	}
	tells := map[api.Errno]int{}
	random := rand.New(rand.NewSource(5))
	try := func(n api.Node) {
		if s, e := outline.Print(n); e == api.OK {
			tells[imported(t, s)]++
		}
	}
	for _, x := range variants(n) {
		try(x)
		more := variants(x)
		for range 5 {
			try(more[random.Intn(len(more))])
		}
	}
	if tells[api.OK] < 50 || tells[api.ErrSchema] < 1000 {
		t.Error(tells)
	}
}

// P12.3, P2: texts of configurations in any order, with notes, written anew, are read as the normal form.
func TestImportAnew(t *testing.T) {
	random := rand.New(rand.NewSource(6))
	read := 0
	for range 3000 {
		c := randomConfig(random)
		s := strings.ReplaceAll(trueText(c), "-\n", "-\n"+strings.Repeat(" ", random.Intn(9))+"# note\n")
		if len(s) > 8192 {
			continue
		}
		read++
		got, e, at := Import(s)
		if !same(got, c) || e != api.OK || at != 0 {
			t.Fatalf("%s\nis read as %v, %d, %d", s, got, e, at)
		}
		anew, e := Export(got)
		if anew != trueText(trueNormal(c)) || e != api.OK {
			t.Fatalf("%s\nwritten anew is %s, %d", s, anew, e)
		}
		if again, e, at := Import(anew); !same(again, trueNormal(c)) || e != api.OK || at != 0 {
			t.Fatalf("%s\nis read anew as %v, %d, %d", s, again, e, at)
		}
	}
	if read < 1000 {
		t.Error(read)
	}
}

// P1: any bytes are read.
func TestImportAny(t *testing.T) {
	random := rand.New(rand.NewSource(7))
	pieces := strings.SplitAfter(trueText(ofOne()), "\n")
	pieces = append(pieces, "route:\n", "receivers:\n", "  -\n", "-", "\n", " ", "  ", "#", "\"", "\\", "\x00", "\xff", ":", "[]", "{}", "[]\n")
	for range 50000 {
		s := ""
		for range random.Intn(14) {
			s += pieces[random.Intn(len(pieces))]
		}
		imported(t, s)
	}
	for range 20000 {
		s := make([]byte, random.Intn(60))
		random.Read(s)
		imported(t, string(s))
	}
}
