package nagfile

import (
	"fmt"
	"math/rand"
	"slices"
	"strings"
	"testing"

	"transhipment/api"
	"transhipment/block"
	"transhipment/config"
)

// imported fails, if a text is not read as it must be, or what it is read as, written anew, is not its normal form; it tells the error.
func imported(t *testing.T, s string) api.Errno {
	t.Helper()
	want, wantE, wantAt := trueImport(s)
	c, e, at := Import(s)
	if !same(c, want) || e != wantE || at != wantAt {
		t.Fatalf("%s\nis read as %v, %d, %d, not as %v, %d, %d", s, c, e, at, want, wantE, wantAt)
	}
	if e == api.OK {
		taken(t, "read", c)
		if anew, e := Export(c); e != api.OK || len(anew) > len(s) || !config.Same(c, want) {
			t.Fatalf("%s\nwritten anew is %s, %d", s, anew, e)
		}
	}
	return e
}

// told fails, if a text does not tell an error at a place.
func told(t *testing.T, s string, want api.Errno, place int) {
	t.Helper()
	if c, e, at := Import(s); !same(c, api.Config{}) || e != want || at != place {
		t.Errorf("%s\ntells %v, %d, %d, not %d, %d", s, c, e, at, want, place)
	}
	if e := imported(t, s); e != want {
		t.Errorf("%s\ntells %d, not %d", s, e, want)
	}
}

// changed is a text in which one thing, that is there just once, is another one.
func changed(t *testing.T, s, old, new string) string {
	t.Helper()
	if strings.Count(s, old) != 1 {
		t.Fatalf("%q is there %d times in\n%s", old, strings.Count(s, old), s)
	}
	return strings.Replace(s, old, new, 1)
}

// P13.2, P13.3: rules, receivers and hours stand in the order in which they are read; lines that say nothing are left out.
func TestImport(t *testing.T) {
	random := rand.New(rand.NewSource(3))
	l := []api.Config{small(), full(), trueNormal(full())}
	for range 300 {
		l = append(l, shuffled(random, full()))
	}
	for _, c := range l {
		s := trueText(c)
		for _, text := range []string{s, "# a note\n\n" + s, s + "  \t\n;\n", strings.ReplaceAll(s, "\n", "\n\t; define contact {\n"), strings.ReplaceAll(s, "\n", "\n\n#\n")} {
			if got, e, at := Import(text); !same(got, c) || e != api.OK || at != 0 {
				t.Errorf("%s\nis read as %v, %d, %d", text, got, e, at)
			}
			imported(t, text)
		}
	}
}

// P13.2: what block tells comes first.
func TestImportLines(t *testing.T) {
	s := trueText(small())
	for _, x := range []struct {
		text string
		at   int
	}{
		{"x\n", 1},
		{"\n\ndefine contact {", 3},
		{"define contact {\n", 2},
		{"define contact {\n\tname\tops\n", 3},
		{strings.TrimSuffix(s, "\n"), 9},
		{s + "x\n", 10},
		{s + "# not ended", 10},
		{s + "define service {\n", 11},
		{changed(t, s, "\tname\tops\n", "\tname\tops\n\tname\tops\n"), 3},
		{changed(t, s, "\tname\tops\n", "\tname\tops \n"), 2},
		{changed(t, s, "\tname\tops\n", "\tname ops\n"), 2},
		{changed(t, s, "\tname\tops\n", "\tname\t\n"), 2},
		{changed(t, s, "\tname\tops\n", "name\tops\n"), 2},
		{changed(t, s, "\tname\tops\n", "\tname\ta;b\n"), 2},
		{changed(t, s, "\tname\tops\n", "\tname\ta\x7fb\n"), 2},
		{changed(t, s, "\tname\tops\n", "\tname\t"+long(201)+"\n"), 2},
		{changed(t, s, "define contact {", "define Contact {"), 1},
		{changed(t, s, "define contact {", "define contact{"), 1},
		{changed(t, s, "\tname\tops\n", "") + "x\n", 9}, // ahead of a fault further up
		{trueService(rule("a")) + s + "}\n", 17},
		{strings.Repeat(trueContact("a"), 65), 193},
		{changed(t, s, "\twait\t0\n", each(many(65, strings.Clone), func(word string) string { return "\t" + word + "\t1\n" })), 69},
	} {
		told(t, x.text, api.ErrLine, x.at)
	}
	told(t, s+strings.Repeat("\n", 8193-len(s)), api.ErrLong, 0)
	told(t, strings.Repeat("\x00", 8193), api.ErrLong, 0)
	if got, e, at := Import(s + strings.Repeat("\n", 8192-len(s))); !same(got, small()) || e != api.OK || at != 0 {
		t.Error(got, e, at)
	}
	for _, bytes := range []int{8191, 8192} {
		if e := imported(t, trueText(ofBytes(t, bytes))); e != api.OK {
			t.Error(bytes, e)
		}
	}
	told(t, trueText(ofBytes(t, 8193)), api.ErrLong, 0)
}

// ofOne is a configuration of which each line of its text stands there just once.
func ofOne() api.Config {
	c := small()
	c.Receivers = []string{"dev", "ops"}
	c.Hours = []api.Hours{{Name: "night", Days: 3, To: 360}, {Name: "week", Days: 64, From: 1, To: 2}}
	c.Route = api.Route{Receiver: "ops", Wait: 1003, Every: 2004, Repeat: 3005, Mute: []string{"night", "week"}}
	c.Rules = []api.Rule{{Name: "low", Metric: "cpu_1", How: api.CTo, Limit: -77, Tries: 4, Labels: pairs("sev", "hi", "team", "a b")}}
	return c
}

// wrongBlocks are blocks of which one thing is not as it must be, by their types.
func wrongBlocks(t *testing.T) map[string][]string {
	c := ofOne()
	l := map[string][]string{}
	add := func(kind, s string, changes ...[2]string) {
		for _, x := range changes {
			l[kind] = append(l[kind], changed(t, s, x[0], x[1]))
		}
	}
	add("t", trueHours(c.Hours[0]), [][2]string{
		{"\tname\tnight\n", ""}, {"\tspan\tmon,tue 00:00-06:00\n", ""}, {"\tname\tnight\n\tspan\tmon,tue 00:00-06:00\n", ""},
		{"\tname\tnight\n\tspan\tmon,tue 00:00-06:00\n", "\tspan\tmon,tue 00:00-06:00\n\tname\tnight\n"},
		{"06:00\n", "06:00\n\tmore\tx\n"}, {"\tname", "\tmore\tx\n\tname"}, {"\tname", "\tnames"}, {"\tspan", "\tspans"}, {"\tspan", "\talias\tx\n\tspan"},
		{"night", "Night"}, {"night", "a b"}, {"night", "-"}, {"night", long(65)},
		{"mon,tue", "tue,mon"}, {"mon,tue", "mon,mon"}, {"mon,tue", "mon,Tue"}, {"mon,tue", "mon tue"}, {"mon,tue ", ""}, {"mon,tue ", "mon,tue  "}, {"mon,tue ", "mon,tue,"}, {"mon,tue ", "mon,tue, "}, {"mon,tue", ",mon,tue"}, {"mon,tue", "mon, tue"},
		{"00:00-", "0:00-"}, {"-06:00", "-6:00"}, {"-06:00", "-24:01"}, {"-06:00", "-00:00"}, {"-06:00", "-06:60"}, {"-06:00", ""}, {"-06:00", "- 06:00"}, {"00:00-06:00", "06:00-06:00"}, {"00:00-06:00", "06:01-06:00"}, {"00:00-06:00", "24:00-24:00"}, {"00:00", "00:00:00"},
	}...)
	add("c", trueContact("dev"), [][2]string{
		{"\tname\tdev\n", ""}, {"dev", "Dev"}, {"dev", "a b"}, {"dev", "-"}, {"dev", "dev,ops"}, {"dev", long(65)}, {"\tname", "\tnames"}, {"\tname", "\tcontact"}, {"\tname", "\tmore\tx\n\tname"}, {"dev", "dev\n\tmore\tx"}, {"dev", "dev\n\tname_1\tx"},
	}...)
	s := trueNotify(c.Route)
	periods := "\tperiod_0\tnight\n\tperiod_1\tweek\n"
	add("n", s, [][2]string{
		{"\tcontact\tops\n", ""}, {"\twait\t1003\n", ""}, {"\tevery\t2004\n", ""}, {"\trepeat\t3005\n", ""},
		{"\tcontact\tops\n\twait\t1003\n", "\twait\t1003\n\tcontact\tops\n"}, {"\twait\t1003\n\tevery\t2004\n", "\tevery\t2004\n\twait\t1003\n"}, {"\tevery\t2004\n\trepeat\t3005\n", "\trepeat\t3005\n\tevery\t2004\n"}, {"\trepeat\t3005\n" + periods, periods + "\trepeat\t3005\n"},
		{"\tcontact", "\tmore\tx\n\tcontact"}, {"3005\n", "3005\n\tmore\tx\n"}, {"week\n", "week\n\tmore\tx\n"}, {"\twait", "\tname"}, {"\tcontact", "\tcontacts"}, {"\trepeat", "\trepeat_"},
		{"ops", "Ops"}, {"ops", "a b"}, {"ops", "-"}, {"ops", long(65)},
		{"1003", "01003"}, {"1003", "-1"}, {"1003", "-0"}, {"1003", "+1003"}, {"1003", "1_003"}, {"1003", "0x3"}, {"1003", "1e3"}, {"1003", "1s"}, {"1003", "1.0"}, {"1003", "x"}, {"1003", "00"}, {"1003", "1 003"}, {"1003", "1099511627777"}, {"1003", "9223372036854775807"}, {"1003", "9223372036854775808"}, {"1003", "18446744073709551616"}, {"1003", "18446744073709552619"}, {"1003", long(200)}, {"1003", strings.Repeat("9", 200)},
		{"2004", "0"}, {"2004", "02004"}, {"2004", "1099511627777"}, {"2004", "-1"}, {"2004", "x"}, {"2004", "+2004"},
		{"3005", "0"}, {"3005", "03005"}, {"3005", "1099511627777"}, {"3005", "-1"}, {"3005", "x"}, {"3005", "18446744073709551617"},
		{periods, "\tperiod_1\tweek\n"}, {periods, "\tperiod_1\tnight\n\tperiod_0\tweek\n"}, {periods, "\tperiod_0\tweek\n\tperiod_1\tnight\n"}, {periods, "\tperiod_1\tweek\n\tperiod_0\tnight\n"}, {periods, "\tperiod_1\tnight\n\tperiod_2\tweek\n"}, {periods, "\tperiod_0\tnight\n\tperiod_2\tweek\n"}, {periods, "\tperiod_0\tnight\n\tperiod_01\tweek\n"}, {periods, "\tperiod_00\tnight\n\tperiod_1\tweek\n"}, {periods, "\tperiod_\tnight\n\tperiod_0\tweek\n"}, {periods, "\tperiod\tnight\n"}, {periods, "\tperiods_0\tnight\n"}, {periods, "\tlabel_0\tnight\n"},
		{periods, "\tperiod_0\tnight\n\tmore\tx\n\tperiod_1\tweek\n"}, {periods, "\tperiod_0\tnight\n\tperiod_1\tnight\n"}, {periods, "\tperiod_0\tnight,week\n"}, {periods, "\tperiod_0\tNight\n"}, {periods, "\tperiod_0\t" + long(65) + "\n"}, {periods, periods + "\tperiod_3\tx\n"}, {periods, periods + "\tperiod_0_\tx\n"},
		{periods, "\tperiod_0\ta\n\tperiod_1\tb\n\tperiod_2\tc\n\tperiod_3\td\n\tperiod_4\te\n\tperiod_5\tf\n\tperiod_6\tg\n\tperiod_7\th\n\tperiod_8\ti\n"},
	}...)
	s = trueService(c.Rules[0])
	labels := "\tlabel_0\tsev=hi\n\tlabel_1\tteam=a b\n"
	add("s", s, [][2]string{
		{"\tname\tlow\n", ""}, {"\tmetric\tcpu_1\n", ""}, {"\tcheck\t<=\n", ""}, {"\tlimit\t-77\n", ""}, {"\tattempts\t4\n", ""},
		{"\tname\tlow\n\tmetric\tcpu_1\n", "\tmetric\tcpu_1\n\tname\tlow\n"}, {"\tmetric\tcpu_1\n\tcheck\t<=\n", "\tcheck\t<=\n\tmetric\tcpu_1\n"}, {"\tcheck\t<=\n\tlimit\t-77\n", "\tlimit\t-77\n\tcheck\t<=\n"}, {"\tlimit\t-77\n\tattempts\t4\n", "\tattempts\t4\n\tlimit\t-77\n"}, {"\tattempts\t4\n" + labels, labels + "\tattempts\t4\n"},
		{"\tname", "\tmore\tx\n\tname"}, {"4\n", "4\n\tmore\tx\n"}, {"a b\n", "a b\n\tmore\tx\n"}, {"4\n", "4\n\tfor\t0\n"}, {"4\n", "4\n\tkeep\t0\n"}, {"\tattempts\t4\n", "\tfor\t0\n\tkeep\t0\n\tattempts\t4\n"}, {"\tname", "\tnames"}, {"\tmetric", "\tmeter"}, {"\tcheck", "\thow"}, {"\tlimit", "\tlimits"}, {"\tattempts", "\ttries"},
		{"low", "Low"}, {"low", "a b"}, {"low", long(65)}, {"cpu_1", "CPU"}, {"cpu_1", "cpu-1"}, {"cpu_1", "a b"}, {"cpu_1", long(65)},
		{"<=", "="}, {"<=", "!="}, {"<=", "=<"}, {"<=", "< ="}, {"<=", "~"}, {"<=", "<=="}, {"<=", "le"}, {"<=", "4"}, {"<=", "<= -77"},
		{"-77", "--77"}, {"-77", "+77"}, {"-77", "-0"}, {"-77", "077"}, {"-77", "-077"}, {"-77", "- 77"}, {"-77", "7.0"}, {"-77", "0x7"}, {"-77", "1e3"}, {"-77", "7_0"}, {"-77", "x"}, {"-77", "-"}, {"-77", "1099511627777"}, {"-77", "-1099511627777"}, {"-77", "9223372036854775808"}, {"-77", "-9223372036854775809"}, {"-77", "18446744073709551693"}, {"-77", "-77 1"},
		{"\t4", "\t0"}, {"\t4", "\t11"}, {"\t4", "\t-4"}, {"\t4", "\t+4"}, {"\t4", "\t04"}, {"\t4", "\tx"}, {"\t4", "\t4.0"}, {"\t4", "\t18446744073709551620"}, {"\t4", "\t4 4"},
		{labels, "\tlabel_1\tteam=a b\n"}, {labels, "\tlabel_1\tsev=hi\n\tlabel_0\tteam=a b\n"}, {labels, "\tlabel_1\tteam=a b\n\tlabel_0\tsev=hi\n"}, {labels, "\tlabel_0\tteam=a b\n\tlabel_1\tsev=hi\n"}, {labels, "\tlabel_1\tsev=hi\n\tlabel_2\tteam=a b\n"}, {labels, "\tlabel_0\tsev=hi\n\tlabel_2\tteam=a b\n"}, {labels, "\tlabel_0\tsev=hi\n\tlabel_01\tteam=a b\n"}, {labels, "\tlabel_00\tsev=hi\n"}, {labels, "\tlabel_\tsev=hi\n"}, {labels, "\tlabel\tsev=hi\n"}, {labels, "\tlabels_0\tsev=hi\n"}, {labels, "\tperiod_0\tsev=hi\n"},
		{labels, "\tlabel_0\tsev=hi\n\tmore\tx\n\tlabel_1\tteam=a b\n"}, {labels, "\tlabel_0\tsev=hi\n\tlabel_1\tsev=lo\n"}, {labels, labels + "\tlabel_3\tz=1\n"}, {labels, labels + "\tlabel_2\ta=1\n"},
		{"sev=hi", "sev"}, {"sev=hi", "sev="}, {"sev=hi", "=hi"}, {"sev=hi", "="}, {"sev=hi", "==hi"}, {"sev=hi", "sev =hi"}, {"sev=hi", "se v=hi"}, {"sev=hi", "0=hi"}, {"sev=hi", "se-v=hi"}, {"sev=hi", "sev:hi"}, {"sev=hi", "alert=hi"}, {"sev=hi", "team=hi"}, {"sev=hi", "z=hi"}, {"sev=hi", "sev=" + long(65)}, {"sev=hi", long(65) + "=hi"},
		{labels, "\tlabel_0\ta=1\n\tlabel_1\tb=2\n\tlabel_2\tc=3\n\tlabel_3\td=4\n\tlabel_4\te=5\n"},
	}...)
	return l
}

// P13.2: blocks that are not as they must be, wherever they stand.
func TestImportBlocks(t *testing.T) {
	c := ofOne()
	head := each(c.Hours, trueHours) + each(c.Receivers, trueContact)
	top := trueNotify(c.Route)
	all := wrongBlocks(t)
	for _, kind := range []string{"host", "contacts", "contact_", "time", "timeperiods", "services", "rule", "route", "inhibit", "_", "0", "define"} {
		for name, s := range map[string]string{"t": trueHours(c.Hours[0]), "c": trueContact("dev"), "n": top, "s": trueService(c.Rules[0])} {
			all[name] = append(all[name], fmt.Sprintf("define %s {\n%s", kind, s[strings.Index(s, "\n")+1:]), "define "+kind+" {\n}\n")
		}
	}
	for _, wrong := range all["t"] {
		told(t, wrong, api.ErrSchema, 1)
		told(t, wrong+head+top, api.ErrSchema, 1)
		told(t, trueHours(span("x"))+wrong+each(c.Hours, trueHours)+each(c.Receivers, trueContact)+top, api.ErrSchema, 2)
		told(t, trueHours(span("night"))+wrong+wrong+top, api.ErrSchema, 2)
		told(t, wrong+top+top, api.ErrSchema, 1) // ahead of the place of what is behind it
	}
	for _, wrong := range all["c"] {
		told(t, wrong, api.ErrSchema, 1)
		told(t, wrong+top, api.ErrSchema, 1)
		told(t, head+wrong+top, api.ErrSchema, 5)
		told(t, trueContact("ops")+wrong+trueContact("ops")+top, api.ErrSchema, 2)
		told(t, each(c.Hours, trueHours)+wrong+each(c.Receivers, trueContact)+top, api.ErrSchema, 3)
	}
	for _, wrong := range all["n"] {
		told(t, wrong, api.ErrSchema, 1)
		told(t, head+wrong, api.ErrSchema, 5)
		told(t, head+wrong+trueService(rule("a")), api.ErrSchema, 5)
		told(t, head+wrong+top, api.ErrSchema, 5)
	}
	for _, wrong := range all["s"] {
		told(t, head+top+wrong, api.ErrSchema, 6)
		told(t, head+top+wrong+wrong, api.ErrSchema, 6)
		told(t, head+top+trueService(rule("a"))+wrong+trueService(rule("a")), api.ErrSchema, 7)
		told(t, head+top+each(many(16, rule), trueService)+wrong, api.ErrSchema, 22)
		told(t, "\n# a note\n"+top+wrong, api.ErrSchema, 2) // notes are not numbered
	}
}

// P13.2: which places blocks have: all orders of up to 6 of them.
func TestImportPlaces(t *testing.T) {
	texts := []string{trueHours(span("x")), trueContact("ops"), trueNotify(route("ops")), trueService(rule("a"))}
	count := map[int]int{}
	var try func(s string, kinds []int)
	try = func(s string, kinds []int) {
		place := 0 // of the first one that has none
		for i, kind := range kinds {
			before := kinds[:i]
			later := slices.ContainsFunc(before, func(other int) bool { return other > kind })
			routed := slices.Contains(before, 2)
			if later || kind == 2 && routed || kind == 3 && !routed {
				place = i + 1
				break
			}
		}
		c, e, at := Import(s)
		if place > 0 && (e != api.ErrSchema || at != place) || place == 0 && at != 0 {
			t.Fatalf("%v: %v, %d, %d, not %d", kinds, c, e, at, place)
		}
		count[place]++
		imported(t, s)
		for kind := range 4 {
			if len(kinds) < 6 {
				try(s+texts[kind], append(slices.Clone(kinds), kind))
			}
		}
	}
	try("", nil)
	for place := range 7 {
		if count[place] < 4 {
			t.Error(count)
		}
	}
}

// P13.2: texts whose blocks are all as they must be, and that are no configuration.
func TestImportWhole(t *testing.T) {
	c := ofOne()
	head, top := each(c.Hours, trueHours)+each(c.Receivers, trueContact), trueNotify(c.Route)
	for _, s := range []string{
		"", "\n", "# a note\n", ";\n\t\n",
		trueHours(span("x")), trueContact("ops"), head, top, // no route, or nothing that it names
		each(c.Hours, trueHours) + top, each(c.Receivers, trueContact) + top,
		trueHours(c.Hours[0]) + each(c.Receivers, trueContact) + top,
		each(c.Hours, trueHours) + trueContact("dev") + top,
		trueHours(span("x")) + trueHours(span("x")) + trueText(small()),
		trueHours(c.Hours[0]) + head + top,
		trueHours(span("night")) + head + top,
		head + trueContact("ops") + top,
		head + trueContact("dev") + top,
		head + top + trueService(rule("a")) + trueService(rule("a")),
		head + top + trueService(rule("a")) + trueService(rule("b")) + trueService(api.Rule{Name: "a", Metric: "n", How: 2, Limit: 5, Tries: 2}),
		each(many(9, span), trueHours) + trueText(small()),
		each(many(16, strings.Clone), trueContact) + trueText(small()),
		strings.Repeat(trueContact("ops"), 63) + trueNotify(small().Route),
		trueText(small()) + each(many(17, rule), trueService),
		trueText(small()) + each(many(62, rule), trueService),
	} {
		told(t, s, api.ErrSchema, 0)
	}
	for _, s := range []string{
		each(many(8, span), trueHours) + trueText(small()),
		each(many(15, strings.Clone), trueContact) + trueText(small()),
		trueText(small()) + each(many(16, rule), trueService),
		each(many(8, span), trueHours) + each(many(15, strings.Clone), trueContact) + trueText(small()) + each(many(16, rule), trueService),
	} {
		if e := imported(t, s); e != api.OK {
			t.Errorf("%s: %d", s, e)
		}
	}
}

// P13.2: what may be, at each place where a value stands.
func TestImportRight(t *testing.T) {
	s := trueText(ofOne())
	labels := "\tlabel_0\tsev=hi\n\tlabel_1\tteam=a b\n"
	for _, x := range [][2]string{
		{"mon,tue", "mon"}, {"mon,tue", "sat,sun"}, {"mon,tue", "mon,tue,wed,thu,fri,sat,sun"}, {"06:00", "24:00"}, {"00:00-", "05:59-"}, {"00:00-06:00", "23:59-24:00"},
		{"\tname\tdev", "\tname\tdevs"}, {"\tname\tdev", "\tname\tnight"}, {"\tname\tdev", "\tname\t" + long(64)}, {trueContact("dev"), ""}, {trueContact("dev"), trueContact("x") + trueContact("dev") + trueContact("_")}, {"\tcontact\tops", "\tcontact\tdev"},
		{"1003", "0"}, {"1003", "1099511627776"}, {"2004", "1"}, {"2004", "1099511627776"}, {"3005", "1"}, {"3005", "1099511627776"},
		{"\tperiod_1\tweek\n", ""}, {"\tperiod_0\tnight\n\tperiod_1\tweek\n", ""}, {"\tperiod_0\tnight\n\tperiod_1\tweek\n", "\tperiod_0\tweek\n"},
		{"\tname\tlow", "\tname\tops"}, {"\tname\tlow", "\tname\t" + long(64)}, {"cpu_1", long(64)}, {"cpu_1", "0"}, {"<=", "<"}, {"<=", ">"}, {"<=", ">="}, {"<=", "=="},
		{"-77", "77"}, {"-77", "0"}, {"-77", "1099511627776"}, {"-77", "-1099511627776"}, {"\t4\n", "\t1\n"}, {"\t4\n", "\t9\n"}, {"\t4\n", "\t10\n"},
		{labels, ""}, {"\tlabel_1\tteam=a b\n", ""}, {labels, labels + "\tlabel_2\tx=1\n\tlabel_3\ty=2\n"}, {"sev=hi", "sev=="}, {"sev=hi", "sev= x"}, {"sev=hi", "sev=a=b=c"}, {"sev=hi", "sev=" + long(64)}, {"sev=hi", long(64) + "=" + long(64)}, {"sev=hi", "SEV=\\\"'#"}, {"sev=hi", "alerts=1"}, {"sev=hi", "sev=  a  b"},
	} {
		if e := imported(t, changed(t, s, x[0], x[1])); e != api.OK {
			t.Errorf("%q: %d", x, e)
		}
	}
}

// P13.2, P13.3: texts with each byte another one, left out, or more.
func TestImportBytes(t *testing.T) {
	s := trueText(ofOne())
	tells := map[api.Errno]int{}
	for i := range len(s) + 1 {
		for b := range 256 {
			one := string([]byte{byte(b)})
			tells[imported(t, s[:i]+one+s[i:])]++
			if i < len(s) {
				tells[imported(t, s[:i]+one+s[i+1:])]++
			}
		}
		tells[imported(t, s[:i])]++
		tells[imported(t, s[i:])]++
		if i < len(s) {
			tells[imported(t, s[:i]+s[i+1:])]++
		}
	}
	if tells[api.OK] < 500 || tells[api.ErrSchema] < 1000 || tells[api.ErrLine] < 1000 {
		t.Error(tells)
	}
}

// P13.2, P13.3: texts with lines that stand elsewhere, are left out, or are there more times.
func TestImportManyLines(t *testing.T) {
	random := rand.New(rand.NewSource(4))
	tells := map[api.Errno]int{}
	for range 10000 {
		lines := strings.SplitAfter(trueText(randomConfig(random)), "\n")
		for range random.Intn(3) {
			i, j := random.Intn(len(lines)), random.Intn(len(lines))
			switch random.Intn(4) {
			case 0:
				lines[i], lines[j] = lines[j], lines[i]
			case 1:
				lines[i] = ""
			case 2:
				lines[i] += lines[j]
			case 3:
				lines[i] = "#" + lines[i]
			}
		}
		tells[imported(t, strings.Join(lines, ""))]++
	}
	for _, e := range []api.Errno{api.OK, api.ErrSchema, api.ErrLine} {
		if tells[e] < 300 {
			t.Error(tells)
		}
	}
}

// variants are blocks of which one thing is changed, anywhere.
func variants(l []api.Def) [][]api.Def {
	var all [][]api.Def
	at := func(i int, change func(d *api.Def)) {
		d := api.Def{Type: l[i].Type, Keys: slices.Clone(l[i].Keys), Values: slices.Clone(l[i].Values)}
		change(&d)
		x := slices.Clone(l)
		x[i] = d
		all = append(all, x)
	}
	for i := range l {
		for j := range l {
			x := slices.Clone(l)
			x[i], x[j] = x[j], x[i]
			all = append(all, x, slices.Insert(slices.Clone(l), i, l[j]))
		}
		all = append(all, slices.Delete(slices.Clone(l), i, i+1))
		for _, kind := range []string{"timeperiod", "contact", "notify", "service", "host"} {
			at(i, func(d *api.Def) { d.Type = kind })
		}
		for k := range l[i].Keys {
			at(i, func(d *api.Def) { d.Keys, d.Values = slices.Delete(d.Keys, k, k+1), slices.Delete(d.Values, k, k+1) })
			for _, key := range []string{"name", "span", "contact", "wait", "every", "repeat", "period_0", "period_1", "period_2", "metric", "check", "limit", "attempts", "label_0", "label_1", "label_2", "more"} {
				at(i, func(d *api.Def) { d.Keys[k] = key })
				at(i, func(d *api.Def) {
					d.Keys, d.Values = slices.Insert(d.Keys, k, key), slices.Insert(d.Values, k, d.Values[k])
				})
				at(i, func(d *api.Def) { d.Keys, d.Values = append(d.Keys, key), append(d.Values, d.Values[k]) })
			}
			for _, value := range []string{"0", "1", "-1", "01", "a", "ops", "dev", "night", "week", "z", "low", "<", "a=1", "z=1", "sun 00:01-00:02"} {
				at(i, func(d *api.Def) { d.Values[k] = value })
			}
			for j := range k {
				at(i, func(d *api.Def) { d.Keys[k], d.Keys[j] = d.Keys[j], d.Keys[k] })
				at(i, func(d *api.Def) { d.Values[k], d.Values[j] = d.Values[j], d.Values[k] })
				at(i, func(d *api.Def) {
					d.Keys[k], d.Keys[j], d.Values[k], d.Values[j] = d.Keys[j], d.Keys[k], d.Values[j], d.Values[k]
				})
			}
		}
	}
	return all
}

// P13.2, P13.3: blocks of which one thing, or two, are changed anywhere.
func TestImportVariants(t *testing.T) {
	l, e, _ := block.Parse(trueText(ofOne()))
	if e != api.OK {
		t.Fatal(e)
	}
	tells := map[api.Errno]int{}
	random := rand.New(rand.NewSource(5))
	try := func(l []api.Def) {
		if s, e := block.Print(l); e == api.OK {
			tells[imported(t, s)]++
		}
	}
	for _, x := range variants(l) {
		try(x)
		more := variants(x)
		for range 3 {
			try(more[random.Intn(len(more))])
		}
	}
	if tells[api.OK] < 50 || tells[api.ErrSchema] < 1000 {
		t.Error(tells)
	}
}

// P13.3, P2: texts of configurations in any order, with notes, written anew, are read as the normal form.
func TestImportAnew(t *testing.T) {
	random := rand.New(rand.NewSource(6))
	for range 3000 {
		c := randomConfig(random)
		s := strings.ReplaceAll(trueText(c), "\n}\n", "\n"+strings.Repeat(" ", random.Intn(9))+"; note\n}\n")
		if len(s) > 8192 {
			t.Fatal(len(s))
		}
		got, e, at := Import(s)
		if !same(got, c) || e != api.OK || at != 0 {
			t.Fatalf("%s\nis read as %v, %d, %d", s, got, e, at)
		}
		anew, e := Export(got)
		if anew != trueText(trueNormal(c)) || e != api.OK {
			t.Fatalf("%s\nwritten anew is %s, %d", s, anew, e)
		}
		if again, e, at := Import(anew); !same(again, trueNormal(c)) || e != api.OK || at != 0 || !config.Same(again, c) {
			t.Fatalf("%s\nis read anew as %v, %d, %d", s, again, e, at)
		}
	}
}

// P1: any bytes are read.
func TestImportAny(t *testing.T) {
	random := rand.New(rand.NewSource(7))
	lines := strings.SplitAfter(trueText(ofOne()), "\n")
	blocks := strings.SplitAfter(trueText(ofOne()), "}\n")
	pieces := append(slices.Concat(lines, blocks), "define service {\n}\n", "\tname\tx\n", "\n", "\t", " ", "#", ";", "}", "{", "\x00", "\xff", "=", "define ")
	for range 50000 {
		s := ""
		for range random.Intn(14) {
			s += pieces[random.Intn(len(pieces))]
		}
		imported(t, s)
	}
	for range 20000 {
		s := make([]byte, random.Intn(60))
		random.Read(s)
		imported(t, string(s))
	}
}
