package nagfile

import (
	"fmt"
	"math"
	"math/rand"
	"reflect"
	"slices"
	"strconv"
	"strings"
	"testing"

	"transhipment/api"
)

// taken fails, if a configuration can't be said so, has another text, or is read as another one.
func taken(t *testing.T, what string, c api.Config) {
	t.Helper()
	if why := Why(c); !Holds(c) || len(why) > 0 {
		t.Errorf("%s: %v doesn't hold: %q", what, show(c), why)
	}
	n := trueNormal(c)
	want := trueText(n)
	s, e := Export(c)
	if len(want) > 8192 {
		if s != "" || e != api.ErrLong {
			t.Errorf("%s: %d bytes are written as %q, %d", what, len(want), s, e)
		}
		return
	}
	if s != want || e != api.OK {
		t.Errorf("%s: written as\n%s, %d, not as\n%s", what, s, e, want)
	}
	if got, e, at := Import(s); !same(got, n) || e != api.OK || at != 0 {
		t.Errorf("%s: read as %v, %d, %d", what, got, e, at)
	}
}

// refused fails, if a configuration can be said so, or it is told by other words why not.
func refused(t *testing.T, what string, c api.Config, words ...string) {
	t.Helper()
	if why := Why(c); Holds(c) || !slices.Equal(why, words) {
		t.Errorf("%s: %v holds, or not for %q, but for %q", what, show(c), words, why)
	}
	if s, e := Export(c); e != api.ErrOther || s != "" {
		t.Errorf("%s: written as %q, %d", what, s, e)
	}
}

// wrongly fails, if a configuration that may not be is taken as one that may.
func wrongly(t *testing.T, what string, c api.Config) {
	t.Helper()
	if why := Why(c); Holds(c) || len(why) > 0 {
		t.Errorf("%s: %v holds, or is told why: %q", what, show(c), why)
	}
	if s, e := Export(c); e != api.ErrArg || s != "" {
		t.Errorf("%s: written as %q, %d", what, s, e)
	}
}

// asked fails, if a configuration that can be said so is refused, or another one, that may not be, is taken.
func asked(t *testing.T, what string, c api.Config, want bool) {
	t.Helper()
	if want {
		taken(t, what, c)
	} else {
		wrongly(t, what, c)
	}
}

// P13.1: texts by hand.
func TestExport(t *testing.T) {
	one := api.Config{
		Rules: []api.Rule{
			{Name: "up", Metric: "m_2", How: api.CIs, Limit: 0, Tries: 1},
			{Name: "cpu", Metric: "load", How: api.CFrom, Limit: -most, Tries: 10, Labels: pairs("A", "=", "b", ` "x\`, "c", "#")},
			{Name: "2", Metric: "m", How: api.CAbove, Limit: most, Tries: 2},
		},
		Route:     api.Route{Receiver: "_", Wait: 0, Every: most, Repeat: 60, Mute: []string{"night", "week"}},
		Receivers: []string{"ops", "1", "_"},
		Hours:     []api.Hours{{Name: "week", Days: 31, From: 540, To: 1440}, {Name: "night", Days: 64, To: 1}},
	}
	for _, x := range []struct {
		c    api.Config
		want string
	}{
		{small(), "define contact {\n\tname\tops\n}\ndefine notify {\n\tcontact\tops\n\twait\t0\n\tevery\t1\n\trepeat\t1\n}\n"},
		{one, "define timeperiod {\n\tname\tnight\n\tspan\tsun 00:00-00:01\n}\ndefine timeperiod {\n\tname\tweek\n\tspan\tmon,tue,wed,thu,fri 09:00-24:00\n}\n" +
			"define contact {\n\tname\t1\n}\ndefine contact {\n\tname\t_\n}\ndefine contact {\n\tname\tops\n}\n" +
			"define notify {\n\tcontact\t_\n\twait\t0\n\tevery\t1099511627776\n\trepeat\t60\n\tperiod_0\tnight\n\tperiod_1\tweek\n}\n" +
			"define service {\n\tname\t2\n\tmetric\tm\n\tcheck\t>\n\tlimit\t1099511627776\n\tattempts\t2\n}\n" +
			"define service {\n\tname\tcpu\n\tmetric\tload\n\tcheck\t>=\n\tlimit\t-1099511627776\n\tattempts\t10\n\tlabel_0\tA==\n\tlabel_1\tb= \"x\\\n\tlabel_2\tc=#\n}\n" +
			"define service {\n\tname\tup\n\tmetric\tm_2\n\tcheck\t==\n\tlimit\t0\n\tattempts\t1\n}\n"},
	} {
		if s, e := Export(x.c); s != x.want || e != api.OK {
			t.Errorf("%v: %d, %s\nnot\n%s", x.c, e, s, x.want)
		}
		taken(t, "by hand", x.c)
	}
}

// P13.1, P13.3: what may be in a configuration, each edge of it.
func TestHolds(t *testing.T) {
	taken(t, "small", small())
	for i, change := range []func(c *api.Config){
		func(c *api.Config) {},
		func(c *api.Config) { c.Rules, c.Hours, c.Route.Mute = nil, nil, nil },
		func(c *api.Config) { c.Rules, c.Hours, c.Route.Mute = []api.Rule{}, []api.Hours{}, []string{} },
		func(c *api.Config) {
			c.Route.Routes, c.Route.By, c.Route.Match, c.Inhibits = []api.Route{}, []string{}, []api.Matcher{}, []api.Inhibit{}
		},
		func(c *api.Config) { c.Rules[0].Labels = []api.Label{} },
		func(c *api.Config) { c.Receivers = []string{"ops"} },
		func(c *api.Config) { c.Receivers = append(c.Receivers, long(64), "_", "0", "contact", "night", "low") },
		func(c *api.Config) { c.Receivers = append(c.Receivers, many(13, strings.Clone)...) },
		func(c *api.Config) { c.Receivers[1], c.Route.Receiver = long(64), long(64) },
		func(c *api.Config) { c.Hours = append(c.Hours, many(5, span)...) },
		func(c *api.Config) { c.Hours, c.Route.Mute = many(8, span), many(8, strings.Clone) },
		func(c *api.Config) { c.Hours[1].Name = long(64) },
		func(c *api.Config) { c.Hours[0].Days, c.Hours[0].From, c.Hours[0].To = 1, 1439, 1440 },
		func(c *api.Config) { c.Hours[0].From, c.Hours[0].To = 599, 600 },
		func(c *api.Config) { c.Route.Mute = nil },
		func(c *api.Config) { c.Route.Mute = []string{"week"} },
		func(c *api.Config) { c.Route.Mute = []string{"day", "night", "week"} },
		func(c *api.Config) { c.Route.Wait, c.Route.Every, c.Route.Repeat = 0, 1, most },
		func(c *api.Config) { c.Route.Wait, c.Route.Every, c.Route.Repeat = most, most, 1 },
		func(c *api.Config) { c.Rules = many(16, rule) },
		func(c *api.Config) { c.Rules[0].Name, c.Rules[0].Metric = long(64), long(64) },
		func(c *api.Config) { c.Rules[0].Limit, c.Rules[1].Limit, c.Rules[2].Limit = most, -most, -1 },
		func(c *api.Config) { c.Rules[1].Labels = pairs("A", "1", "B", "2", "a", "3", "b", "4") },
		func(c *api.Config) { c.Rules[1].Labels = pairs(long(64), long(64)) },
		func(c *api.Config) { c.Rules[1].Labels = pairs("alerts", "1", "label_0", "2", "name", "3") },
		func(c *api.Config) { c.Rules[1].Labels = pairs("a", "=", "b", "a=b", "c", "  x", "d", " = ==") },
		func(c *api.Config) { c.Rules[0].Name, c.Receivers[0], c.Hours[1].Name = "x", "x", "x" },
		func(c *api.Config) {
			c.Hours, c.Receivers, c.Route.Receiver = many(8, span), many(16, strings.Clone), "w03"
			c.Rules, c.Route.Mute = many(16, rule), many(8, strings.Clone)
		}, // as many blocks as there may be
	} {
		taken(t, strconv.Itoa(i), with(change))
	}
	for how := api.CAbove; how <= api.CIs; how++ {
		for tries := 1; tries <= 10; tries++ {
			taken(t, fmt.Sprint(how, tries), with(func(c *api.Config) { c.Rules[2].How, c.Rules[2].Tries = how, tries }))
		}
	}
}

// P13.1, P13.3: each byte, wherever it may stand.
func TestBytes(t *testing.T) {
	for b := range 256 {
		one := string([]byte{byte(b)})
		word, name := strings.Contains(wordBytes, one), strings.Contains(nameBytes, one)
		first := name && !strings.Contains(notFirst, one)
		for what, c := range map[string]api.Config{
			"receiver":     with(func(c *api.Config) { c.Receivers[0] = one }),
			"its receiver": with(func(c *api.Config) { c.Receivers[1], c.Route.Receiver = one+"x", one+"x" }),
			"hours":        with(func(c *api.Config) { c.Hours[1].Name = "x" + one }),
			"mute":         with(func(c *api.Config) { c.Hours[0].Name, c.Route.Mute[1] = "x"+one, "x"+one }),
			"name":         with(func(c *api.Config) { c.Rules[1].Name = one }),
			"metric":       with(func(c *api.Config) { c.Rules[2].Metric = "x" + one }),
		} {
			asked(t, what+" "+one, c, word)
		}
		asked(t, "label "+one, with(func(c *api.Config) { c.Rules[1].Labels = pairs(one, "v") }), first)
		asked(t, "label x"+one, with(func(c *api.Config) { c.Rules[1].Labels = pairs("x"+one, "v") }), name)
		for _, value := range []string{one, one + "x", "x" + one, "x" + one + "x"} {
			c := with(func(c *api.Config) { c.Rules[1].Labels = pairs("a", "v", "b", value) })
			if one == ";" || value == " " || value == "x " {
				refused(t, "value "+value, c, "label")
			} else {
				asked(t, "value "+value, c, b >= 32 && b <= 126)
			}
		}
	}
}

// reason is what can't be said so, and how a configuration comes to have it, in several ways.
type reason struct {
	word string
	ways []func(c *api.Config)
}

// reasons are all there are, in order.
func reasons() []reason {
	each := func(change func(r *api.Rule)) []func(c *api.Config) {
		var l []func(c *api.Config)
		for i := range 3 {
			l = append(l, func(c *api.Config) { change(&c.Rules[i]) })
		}
		return append(l, func(c *api.Config) { change(&c.Rules[0]); change(&c.Rules[2]) })
	}
	join := func(l ...[]func(c *api.Config)) []func(c *api.Config) { return slices.Concat(l...) }
	value := func(value string) []func(c *api.Config) {
		return join(
			each(func(r *api.Rule) { r.Labels = pairs("a", value) }),
			each(func(r *api.Rule) { r.Labels = pairs("a", value, "b", "1", "c", "2", "d", "3") }),
			each(func(r *api.Rule) { r.Labels = pairs("a", "1", "b", value, "c", "2", "d", "3") }),
			each(func(r *api.Rule) { r.Labels = pairs("a", "1", "b", "2", "c", "3", "d", value) }),
		)
	}
	return []reason{
		{"routes", []func(c *api.Config){
			func(c *api.Config) { c.Route.Routes = []api.Route{route("ops")} },
			func(c *api.Config) { c.Route.Routes = many(16, func(string) api.Route { return route("dev") }) },
			func(c *api.Config) {
				inner := route("qa")
				inner.By, inner.Routes = []string{"a"}, []api.Route{route("ops")}
				c.Route.Routes = []api.Route{inner}
			}, // By of a route within it is not its own
		}},
		{"group", []func(c *api.Config){
			func(c *api.Config) { c.Route.By = []string{"a"} },
			func(c *api.Config) { c.Route.By = many(8, strings.Clone) },
		}},
		{"inhibit", []func(c *api.Config){
			func(c *api.Config) { c.Inhibits = []api.Inhibit{inhibit()} },
			func(c *api.Config) { c.Inhibits = slices.Repeat([]api.Inhibit{inhibit()}, 8) },
		}},
		{"for", join(each(func(r *api.Rule) { r.For = 1 }), each(func(r *api.Rule) { r.For = most }))},
		{"keep", join(each(func(r *api.Rule) { r.Keep = 1 }), each(func(r *api.Rule) { r.Keep = most }))},
		{"label", join(value(";"), value(" "), value("x "), value("; "), value(";x"), value("x;"), value("a;b;"), value("  "), value(long(63)+" "), value(long(63)+";"))},
	}
}

// P13.1: what can't be said so, each thing by itself.
func TestWhyOne(t *testing.T) {
	for _, x := range reasons() {
		for i, way := range x.ways {
			refused(t, x.word+" "+strconv.Itoa(i), with(way), x.word)
		}
	}
}

// P13.1: what can't be said so, all that is there, in order, each word once; what may not be has no such words.
func TestWhyMany(t *testing.T) {
	random := rand.New(rand.NewSource(8))
	for bits := 1; bits < 64; bits++ {
		for range 20 {
			c := full()
			var words []string
			for i, x := range reasons() {
				if bits>>i&1 == 1 {
					x.ways[random.Intn(len(x.ways))](&c)
					words = append(words, x.word)
				}
			}
			refused(t, "many", c, words...)
			refused(t, "many", shuffled(random, c), words...)
			c.Receivers = append(c.Receivers, "ops")
			wrongly(t, "many", c)
		}
	}
}

// wrong are changes of a configuration by which it may not be, each for one thing alone.
func wrong() []func(c *api.Config) {
	return []func(c *api.Config){
		func(c *api.Config) { *c = api.Config{} },
		func(c *api.Config) { c.Route.Receiver = "" },
		func(c *api.Config) { c.Route.Receiver = "no" },
		func(c *api.Config) { c.Route.Match = inhibit().Source },
		func(c *api.Config) { c.Route.On = true },
		func(c *api.Config) { c.Route.Wait = -1 },
		func(c *api.Config) { c.Route.Wait = most + 1 },
		func(c *api.Config) { c.Route.Every = 0 },
		func(c *api.Config) { c.Route.Every = math.MaxInt },
		func(c *api.Config) { c.Route.Repeat = 0 },
		func(c *api.Config) { c.Route.Repeat = math.MinInt },
		func(c *api.Config) { c.Route.By = []string{"b", "a"} },
		func(c *api.Config) { c.Route.Mute = []string{"no"} },
		func(c *api.Config) { c.Route.Mute = []string{"night", "day"} },
		func(c *api.Config) { c.Route.Mute = []string{"day", "day"} },
		func(c *api.Config) { c.Route.Routes = []api.Route{{}} },
		func(c *api.Config) { c.Route.Routes = []api.Route{route("no")} },
		func(c *api.Config) { c.Receivers = nil },
		func(c *api.Config) { c.Receivers = append(c.Receivers, "qa") },
		func(c *api.Config) { c.Receivers = append(c.Receivers, many(14, strings.Clone)...) },
		func(c *api.Config) { c.Receivers[0] = "" },
		func(c *api.Config) { c.Receivers[0] = long(65) },
		func(c *api.Config) { c.Inhibits = slices.Repeat([]api.Inhibit{inhibit()}, 9) },
		func(c *api.Config) { c.Inhibits = []api.Inhibit{{}} },
		func(c *api.Config) { c.Hours[1].Name = "" },
		func(c *api.Config) { c.Hours[1].Name = "day" },
		func(c *api.Config) { c.Hours[1].Name = long(65) },
		func(c *api.Config) { c.Hours[1].Days = 0 },
		func(c *api.Config) { c.Hours[1].Days = 128 },
		func(c *api.Config) { c.Hours[1].From = -1 },
		func(c *api.Config) { c.Hours[1].From = 1050 },
		func(c *api.Config) { c.Hours[1].To = 1441 },
		func(c *api.Config) { c.Hours = c.Hours[1:] },
		func(c *api.Config) { c.Hours = append(c.Hours, many(6, span)...) },
		func(c *api.Config) { c.Rules = many(17, rule) },
		func(c *api.Config) { c.Rules[2].Name = c.Rules[0].Name },
		func(c *api.Config) { c.Rules[2].Name = "" },
		func(c *api.Config) { c.Rules[2].Name = long(65) },
		func(c *api.Config) { c.Rules[2].Metric = "" },
		func(c *api.Config) { c.Rules[2].How = 0 },
		func(c *api.Config) { c.Rules[2].How = 6 },
		func(c *api.Config) { c.Rules[2].Limit = most + 1 },
		func(c *api.Config) { c.Rules[2].Limit = -most - 1 },
		func(c *api.Config) { c.Rules[2].For = -1 },
		func(c *api.Config) { c.Rules[2].Keep = most + 1 },
		func(c *api.Config) { c.Rules[2].Tries = 0 },
		func(c *api.Config) { c.Rules[2].Tries = 11 },
		func(c *api.Config) { c.Rules[1].Labels = pairs("t", "1", "a", "2") },
		func(c *api.Config) { c.Rules[1].Labels = pairs("a", "1", "a", "2") },
		func(c *api.Config) { c.Rules[1].Labels = pairs("alert", "1") },
		func(c *api.Config) { c.Rules[1].Labels = pairs("a", "") },
		func(c *api.Config) { c.Rules[1].Labels = pairs("a", long(65)) },
		func(c *api.Config) { c.Rules[1].Labels = pairs(long(65), "a") },
		func(c *api.Config) { c.Rules[1].Labels = pairs("a", "1", "b", "2", "c", "3", "d", "4", "e", "5") },
		func(c *api.Config) { c.Rules[1].Labels = pairs("a", ";", "b", "\n") },
	}
}

// P13.1, P1: configurations that may not be; that is told ahead of what can't be said so, and of what is too long.
func TestWrong(t *testing.T) {
	for i, change := range wrong() {
		what := strconv.Itoa(i)
		wrongly(t, what, with(change))
		for _, x := range reasons() {
			c := full()
			x.ways[0](&c)
			change(&c)
			wrongly(t, what+" "+x.word, c)
		}
		c := ofBytes(t, 8193)
		change(&c)
		wrongly(t, what+", too long", c)
	}
	for what, c := range map[string]api.Config{
		"nothing": {}, "no route": {Receivers: []string{"ops"}}, "no receiver": {Route: route("ops")},
		"many of all": {Rules: make([]api.Rule, 1000), Receivers: make([]string, 1000), Inhibits: make([]api.Inhibit, 1000), Hours: make([]api.Hours, 1000)},
	} {
		wrongly(t, what, c)
	}
	c := small()
	for deep := 2; deep <= 5000; deep++ {
		top := route("ops")
		top.Routes = []api.Route{c.Route}
		c.Route = top
		if deep == 4 {
			refused(t, "4 deep", c, "routes")
		} else if deep == 5 {
			wrongly(t, "5 deep", c)
		}
	}
	wrongly(t, "deep", c)
}

// P13.1: texts of about 8192 bytes; what can't be said so is told ahead of what is too long.
func TestLong(t *testing.T) {
	for bytes := 8150; bytes <= 8240; bytes++ {
		c := ofBytes(t, bytes)
		s, e := Export(c)
		if bytes <= 8192 && (s != trueText(trueNormal(c)) || e != api.OK) || bytes > 8192 && (s != "" || e != api.ErrLong) {
			t.Errorf("%d bytes: %d, %q", bytes, e, s)
		}
		taken(t, strconv.Itoa(bytes), c)
		c.Route.By = []string{"a"}
		refused(t, "too long, and grouped", c, "group")
	}
	c := ofBytes(t, 9000)
	for i := range c.Rules {
		c.Rules[i].Name, c.Rules[i].Metric = c.Rules[i].Name+long(61), long(64)
	}
	taken(t, "the longest", c)
}

// P13.1, P13.3, P2: random configurations; others of one normal form have one text.
func TestRandom(t *testing.T) {
	random := rand.New(rand.NewSource(1))
	for range 5000 {
		c := randomConfig(random)
		taken(t, "random", c)
		other := shuffled(random, c)
		taken(t, "random", other)
		a, e1 := Export(c)
		b, e2 := Export(other)
		if a != b || e1 != api.OK || e2 != api.OK {
			t.Fatalf("%v and %v are written as\n%s, %d, and\n%s, %d", c, other, a, e1, b, e2)
		}
	}
}

// P13.1, P2: configurations of other normal forms have other texts.
func TestDistinct(t *testing.T) {
	var l []api.Config
	for _, change := range []func(c *api.Config){
		func(c *api.Config) {},
		func(c *api.Config) { c.Rules = c.Rules[1:] },
		func(c *api.Config) { c.Rules[1].Name = "higher" },
		func(c *api.Config) { c.Rules[1].Metric = "cpu" },
		func(c *api.Config) { c.Rules[1].How = api.CBelow },
		func(c *api.Config) { c.Rules[1].How = api.CIs },
		func(c *api.Config) { c.Rules[1].Limit = 3 },
		func(c *api.Config) { c.Rules[1].Tries = 3 },
		func(c *api.Config) { c.Rules[1].Labels = c.Rules[1].Labels[1:] },
		func(c *api.Config) { c.Rules[1].Labels[0].Name = "Se" },
		func(c *api.Config) { c.Rules[1].Labels[0].Value = "very=hi" },
		func(c *api.Config) { c.Rules[1].Labels = pairs("Sev", "5", "t", " very=hi") },
		func(c *api.Config) { c.Rules[0].Labels, c.Rules[1].Labels = c.Rules[1].Labels, c.Rules[0].Labels },
		func(c *api.Config) { c.Route.Receiver = "dev" },
		func(c *api.Config) { c.Route.Wait = 31 },
		func(c *api.Config) { c.Route.Every = 30 },
		func(c *api.Config) { c.Route.Repeat = 61 },
		func(c *api.Config) { c.Route.Wait, c.Route.Every = c.Route.Every, c.Route.Wait },
		func(c *api.Config) { c.Route.Every, c.Route.Repeat = c.Route.Repeat, c.Route.Every },
		func(c *api.Config) { c.Route.Mute = nil },
		func(c *api.Config) { c.Route.Mute = []string{"day", "week"} },
		func(c *api.Config) { c.Receivers = c.Receivers[1:] },
		func(c *api.Config) { c.Receivers[0] = "x" },
		func(c *api.Config) { c.Hours[1].Name = "x" },
		func(c *api.Config) { c.Hours[1].Days = 30 },
		func(c *api.Config) { c.Hours[1].From = 541 },
		func(c *api.Config) { c.Hours[1].To = 1049 },
		func(c *api.Config) { c.Hours = append(c.Hours[:1], c.Hours[2]) },
	} {
		l = append(l, with(change))
	}
	for i, a := range l {
		taken(t, strconv.Itoa(i), a)
		x, _ := Export(a)
		for _, b := range l[:i] {
			if y, _ := Export(b); x == y {
				t.Errorf("%v and %v: %s", a, b, x)
			}
		}
	}
}

// R1, R4: calls answer the same again, whatever is done with what they answered, and lists that are handed in stay as they were.
func TestListsStay(t *testing.T) {
	c := full()
	unsaid := with(func(c *api.Config) { c.Route.By, c.Rules[2].For, c.Rules[0].Keep = []string{"a"}, 1, 1 })
	text := trueText(full())
	for range 3 {
		if s, e := Export(c); s != trueText(trueNormal(full())) || e != api.OK || !Holds(c) {
			t.Fatal(s, e)
		}
		why := Why(unsaid)
		if !slices.Equal(why, []string{"group", "for", "keep"}) {
			t.Fatal(why)
		}
		why[0] = "other"
		got, e, at := Import(text)
		if !same(got, full()) || e != api.OK || at != 0 {
			t.Fatal(got, e, at)
		}
		got.Receivers[0], got.Route.Mute[0], got.Hours[0] = "other", "other", span("other")
		got.Rules[1].Labels[0].Value = "other"
		_ = append(got.Rules[0].Labels, pairs("more", "1")...)
		_ = append(got.Route.Mute, "more")
		if rest := full(); !slices.EqualFunc(got.Rules[2:], rest.Rules[2:], sameRule) || !slices.Equal(got.Receivers[1:], rest.Receivers[1:]) || !slices.Equal(got.Hours[1:], rest.Hours[1:]) {
			t.Fatalf("lists are shared: %v", got)
		}
		if !reflect.DeepEqual(c, full()) {
			t.Fatalf("the configuration came to be %v", c)
		}
	}
}
