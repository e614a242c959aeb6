package promfile

import (
	"fmt"
	"math"
	"math/rand"
	"reflect"
	"regexp"
	"slices"
	"strconv"
	"strings"
	"testing"

	"transhipment/api"
)

const (
	wordBytes = "abcdefghijklmnopqrstuvwxyz0123456789_"
	most      = 1099511627776 // of ticks and of values
)

var plain = regexp.MustCompile(`^[A-Za-z0-9_./:][A-Za-z0-9_./:-]*\z`)

// rule is a rule that can be said so, and has no more than it must have.
func rule(name string) api.Rule {
	return api.Rule{Name: name, Metric: "m", How: api.CAbove, Tries: 1}
}

// full is a rule of which no part is as in one that has nothing.
func full(name string) api.Rule {
	return api.Rule{Name: name, Metric: "cpu_1", How: api.CTo, Limit: -3, For: 1000, Keep: 20, Tries: 1, Labels: pairs("Sev", "very hi", "t", "5")}
}

// with is the full rule `b`, with a change.
func with(change func(r *api.Rule)) api.Rule {
	r := full("b")
	change(&r)
	return r
}

// pairs are labels of names and values, as they stand.
func pairs(words ...string) []api.Label {
	var l []api.Label
	for i := 0; i+1 < len(words); i += 2 {
		l = append(l, api.Label{Name: words[i], Value: words[i+1]})
	}
	return l
}

// many are so many rules, in order.
func many(how int) []api.Rule {
	var l []api.Rule
	for i := range how {
		l = append(l, full(fmt.Sprintf("w%02d", i)))
	}
	return l
}

// long is a text of that many bytes.
func long(many int) string { return strings.Repeat("n", many) }

// same holds rules against each other, as they stand.
func same(a, b []api.Rule) bool {
	return slices.EqualFunc(a, b, func(x, y api.Rule) bool {
		labels := slices.Equal(x.Labels, y.Labels)
		x.Labels, y.Labels = nil, nil
		return labels && reflect.DeepEqual(x, y)
	})
}

// byName are rules in order, found in another way: each goes ahead of the first one that is greater.
func byName(l []api.Rule) []api.Rule {
	var to []api.Rule
	for _, r := range l {
		at := 0
		for at < len(to) && to[at].Name <= r.Name {
			at++
		}
		to = slices.Insert(to, at, r)
	}
	return to
}

// trueText is the text of rules, as they stand, written in another way.
func trueText(l []api.Rule) string {
	word := func(s string) string {
		if plain.MatchString(s) {
			return s
		}
		return `"` + strings.NewReplacer(`\`, `\\`, `"`, `\"`).Replace(s) + `"`
	}
	signs := map[int]string{api.CAbove: ">", api.CFrom: ">=", api.CBelow: "<", api.CTo: "<=", api.CIs: "=="}
	s := "rules:\n"
	for _, r := range l {
		s += fmt.Sprintf("  -\n    alert: %s\n    expr: \"%s %s %d\"\n    for: %d\n    keep: %d\n    labels:", r.Name, r.Metric, signs[r.How], r.Limit, r.For, r.Keep)
		if len(r.Labels) == 0 {
			s += " []"
		}
		s += "\n"
		for _, x := range r.Labels {
			s += "      -\n        name: " + word(x.Name) + "\n        value: " + word(x.Value) + "\n"
		}
	}
	return s
}

// refused fails, if rules can be said so.
func refused(t *testing.T, what string, l []api.Rule) {
	t.Helper()
	if Holds(l) {
		t.Errorf("%s: they hold", what)
	}
	if s, e := Export(l); e != api.ErrOther || s != "" {
		t.Errorf("%s: written as %q, %d", what, s, e)
	}
}

// taken fails, if rules can't be said so, have another text, or are read as others.
func taken(t *testing.T, what string, l []api.Rule) {
	t.Helper()
	if !Holds(l) {
		t.Errorf("%s: they don't hold", what)
	}
	want := trueText(byName(l))
	s, e := Export(l)
	if len(want) > 8192 {
		if s != "" || e != api.ErrLong {
			t.Errorf("%s: %d bytes are written as %q, %d", what, len(want), s, e)
		}
		return
	}
	if s != want || e != api.OK {
		t.Errorf("%s: written as\n%s, %d, not as\n%s", what, s, e, want)
	}
	if got, e, at := Import(s); !same(got, byName(l)) || e != api.OK || at != 0 {
		t.Errorf("%s: read as %v, %d, %d", what, got, e, at)
	}
}

// P11.1: texts by hand.
func TestExport(t *testing.T) {
	none := rule("a")
	none.Limit = 5
	for _, x := range []struct {
		l    []api.Rule
		want string
	}{
		{[]api.Rule{none}, "rules:\n  -\n    alert: a\n    expr: \"m > 5\"\n    for: 0\n    keep: 0\n    labels: []\n"},
		{[]api.Rule{full("b"), none}, "rules:\n" +
			"  -\n    alert: a\n    expr: \"m > 5\"\n    for: 0\n    keep: 0\n    labels: []\n" +
			"  -\n    alert: b\n    expr: \"cpu_1 <= -3\"\n    for: 1000\n    keep: 20\n    labels:\n" +
			"      -\n        name: Sev\n        value: \"very hi\"\n      -\n        name: t\n        value: 5\n"},
		{[]api.Rule{{Name: "_", Metric: "0", How: api.CFrom, Limit: most, For: most, Keep: most, Tries: 1, Labels: pairs("A", `"`, "B", `\"`, "C", "-", "D", "[]")}},
			"rules:\n  -\n    alert: _\n    expr: \"0 >= 1099511627776\"\n    for: 1099511627776\n    keep: 1099511627776\n    labels:\n" +
				"      -\n        name: A\n        value: \"\\\"\"\n      -\n        name: B\n        value: \"\\\\\\\"\"\n" +
				"      -\n        name: C\n        value: \"-\"\n      -\n        name: D\n        value: \"[]\"\n"},
	} {
		if s, e := Export(x.l); s != x.want || e != api.OK {
			t.Errorf("%v: %d, %s", x.l, e, s)
		}
		taken(t, "by hand", x.l)
	}
}

// P11.1, P11.3: what may be in a rule, each edge of it.
func TestHolds(t *testing.T) {
	for i, change := range []func(r *api.Rule){
		func(r *api.Rule) {},
		func(r *api.Rule) { r.Name = long(64) },
		func(r *api.Rule) { r.Name = "rules" },
		func(r *api.Rule) { r.Metric = long(64) },
		func(r *api.Rule) { r.Metric = "b" },
		func(r *api.Rule) { r.How = api.CAbove },
		func(r *api.Rule) { r.How = api.CFrom },
		func(r *api.Rule) { r.How = api.CBelow },
		func(r *api.Rule) { r.How = api.CTo },
		func(r *api.Rule) { r.How = api.CIs },
		func(r *api.Rule) { r.Limit = most },
		func(r *api.Rule) { r.Limit = -most },
		func(r *api.Rule) { r.Limit = 0 },
		func(r *api.Rule) { r.Limit = 10 },
		func(r *api.Rule) { r.For, r.Keep = most, 0 },
		func(r *api.Rule) { r.For, r.Keep = 0, most },
		func(r *api.Rule) { r.Labels = nil },
		func(r *api.Rule) { r.Labels = []api.Label{} },
		func(r *api.Rule) { r.Labels = pairs("Alert", "a", "_", "b", "alerts", "c", "name", "value") },
		func(r *api.Rule) { r.Labels = pairs(long(64), strings.Repeat(`"`, 64)) },
		func(r *api.Rule) { r.Labels = pairs("a", " ", "b", "{}", "c", "#", "d", "x: y") },
	} {
		r := with(change)
		taken(t, strconv.Itoa(i), []api.Rule{r})
		taken(t, strconv.Itoa(i), []api.Rule{rule("c"), r, rule("a")})
	}
	for b := range 256 { // each byte, wherever it may stand
		one := string([]byte{byte(b)})
		word := strings.Contains(wordBytes, one)
		asked(t, "name "+one, with(func(r *api.Rule) { r.Name = one }), word)
		asked(t, "metric "+one, with(func(r *api.Rule) { r.Metric = "m" + one }), word)
		asked(t, "value "+one, with(func(r *api.Rule) { r.Labels[0].Value = one + "x" }), b >= 32 && b <= 126)
		asked(t, "value "+one, with(func(r *api.Rule) { r.Labels[1].Value = "x" + one }), b >= 32 && b <= 126)
	}
}

// asked fails, if a rule can be said so, or not, other than is wanted.
func asked(t *testing.T, what string, r api.Rule, want bool) {
	t.Helper()
	if want {
		taken(t, what, []api.Rule{r})
	} else {
		refused(t, what, []api.Rule{r})
	}
}

// wrong are rules that can't be said so, each for one thing alone.
func wrong() []api.Rule {
	l := []api.Rule{{}}
	for _, change := range []func(r *api.Rule){
		func(r *api.Rule) { r.Name = "" },
		func(r *api.Rule) { r.Name = long(65) },
		func(r *api.Rule) { r.Name = "B" },
		func(r *api.Rule) { r.Metric = "" },
		func(r *api.Rule) { r.Metric = long(65) },
		func(r *api.Rule) { r.Metric = "m > 5" },
		func(r *api.Rule) { r.How = 0 },
		func(r *api.Rule) { r.How = 6 },
		func(r *api.Rule) { r.How = -1 },
		func(r *api.Rule) { r.How = math.MaxInt },
		func(r *api.Rule) { r.Limit = most + 1 },
		func(r *api.Rule) { r.Limit = -most - 1 },
		func(r *api.Rule) { r.For = -1 },
		func(r *api.Rule) { r.For = most + 1 },
		func(r *api.Rule) { r.Keep = -1 },
		func(r *api.Rule) { r.Keep = math.MinInt },
		func(r *api.Rule) { r.Tries = 0 },
		func(r *api.Rule) { r.Tries = -1 },
		func(r *api.Rule) { r.Tries = 2 },
		func(r *api.Rule) { r.Tries = 10 },
		func(r *api.Rule) { r.Tries = 11 },
		func(r *api.Rule) { r.Labels = pairs("b", "1", "a", "2") },
		func(r *api.Rule) { r.Labels = pairs("a", "1", "a", "1") },
		func(r *api.Rule) { r.Labels = pairs("alert", "b") },
		func(r *api.Rule) { r.Labels = pairs("a", "") },
		func(r *api.Rule) { r.Labels = pairs("", "a") },
		func(r *api.Rule) { r.Labels = pairs("1", "a") },
		func(r *api.Rule) { r.Labels = pairs("a", long(65)) },
		func(r *api.Rule) { r.Labels = pairs("a", "1", "b", "2", "c", "3", "d", "4", "e", "5") },
		func(r *api.Rule) { r.Labels = slices.Repeat(pairs("a", "1"), 100) },
	} {
		l = append(l, with(change))
	}
	return l
}

// P11.1: rules that can't be said so, wherever they stand.
func TestWrong(t *testing.T) {
	for i, r := range wrong() {
		refused(t, strconv.Itoa(i), []api.Rule{r})
		for _, of := range []int{2, 3, 16} {
			for at := range of {
				l := many(of)
				l[at] = r
				refused(t, fmt.Sprint(i, of, at), l)
			}
		}
	}
}

// P11.1: how many rules.
func TestMany(t *testing.T) {
	refused(t, "nil", nil)
	refused(t, "none", []api.Rule{})
	for how := 1; how <= 40; how++ {
		l := many(how)
		slices.Reverse(l)
		if how <= 16 {
			taken(t, strconv.Itoa(how), l)
		} else {
			refused(t, strconv.Itoa(how), l)
		}
	}
	refused(t, "far too many", many(2000))
}

// P11.1: no name twice, wherever the two stand, whatever else of them differs.
func TestTwice(t *testing.T) {
	for j := range 16 {
		for i := range j {
			l := many(16)
			l[j].Name = l[i].Name
			refused(t, fmt.Sprint(i, j), l)
			l[j] = rule(l[i].Name)
			refused(t, fmt.Sprint(i, j), l)
		}
	}
}

// P11.1: rules stand by their names, byte by byte.
func TestOrder(t *testing.T) {
	want := []string{"0", "1", "10", "2", "_", "_0", "__", "_a", "a", "a0", "a_", "aa", "ab", "b", "z", "zz"}
	random := rand.New(rand.NewSource(1))
	for range 300 {
		var l []api.Rule
		for i, at := range random.Perm(len(want)) {
			r := rule(want[at])
			r.Limit = i
			l = append(l, r)
		}
		taken(t, "order", l)
		s, _ := Export(l)
		got, _, _ := Import(s)
		for i, r := range got {
			if r.Name != want[i] {
				t.Fatalf("%s stands at %d", r.Name, i)
			}
		}
	}
}

// ofBytes are 16 rules whose text has so many bytes.
func ofBytes(t *testing.T, bytes int) []api.Rule {
	l := many(16)
	for i := range l {
		l[i].Metric, l[i].Labels = long(64), pairs("a", "v", "b", "v", "c", "v", "d", "v")
	}
	for i := range 64 {
		x := &l[i/4].Labels[i%4]
		x.Value += strings.Repeat("v", min(63, max(0, bytes-len(trueText(l)))))
	}
	if got := len(trueText(l)); got != bytes {
		t.Fatalf("%d bytes, not %d", got, bytes)
	}
	return l
}

// P11.1: texts of about 8192 bytes; what can't be said so is told ahead of what is too long.
func TestLong(t *testing.T) {
	for bytes := 8100; bytes <= 8260; bytes++ {
		l := ofBytes(t, bytes)
		if !Holds(l) {
			t.Errorf("%d bytes don't hold", bytes)
		}
		s, e := Export(l)
		if bytes <= 8192 && (s != trueText(l) || e != api.OK) || bytes > 8192 && (s != "" || e != api.ErrLong) {
			t.Errorf("%d bytes: %d, %q", bytes, e, s)
		}
		taken(t, strconv.Itoa(bytes), l)
		l[15].Tries = 2
		refused(t, "too long, and Tries", l)
		l[15].Tries, l[15].Name = 1, l[0].Name
		refused(t, "too long, and twice", l)
	}
	l := many(16)
	for i := range l {
		l[i].Labels = nil
		for _, c := range []string{"a", "b", "c", "d"} {
			l[i].Labels = append(l[i].Labels, api.Label{Name: strings.Repeat(c, 64), Value: strings.Repeat(`\`, 64)})
		}
	}
	taken(t, "the longest", l)
}

// randomWord is a word of a rule.
func randomWord(random *rand.Rand) string {
	word := make([]byte, 1+random.Intn(3))
	if random.Intn(20) == 0 {
		word = make([]byte, 60+random.Intn(5))
	}
	for i := range word {
		word[i] = wordBytes[random.Intn(len(wordBytes))]
	}
	return string(word)
}

// randomNumber is one of 0 to 2^40, of any number of digits.
func randomNumber(random *rand.Rand) int {
	if random.Intn(10) == 0 {
		return []int{0, 1, 9, 10, most - 1, most}[random.Intn(6)]
	}
	return int(random.Int63n(most+1) >> random.Intn(41))
}

// randomRule is a rule that can be said so.
func randomRule(random *rand.Rand) api.Rule {
	r := api.Rule{Name: randomWord(random), Metric: randomWord(random), How: 1 + random.Intn(5), Tries: 1}
	r.Limit, r.For, r.Keep = randomNumber(random)*(1-2*random.Intn(2)), randomNumber(random), randomNumber(random)
	for _, name := range []string{"A", "Alert", "_", "alerts", "b2", "name", "value"} {
		if len(r.Labels) == 4 || random.Intn(3) > 0 {
			continue
		}
		value := make([]byte, 1+random.Intn(6))
		for i := range value {
			value[i] = byte(32 + random.Intn(95))
		}
		r.Labels = append(r.Labels, api.Label{Name: name, Value: string(value)})
	}
	return r
}

// randomRules are rules that can be said so.
func randomRules(random *rand.Rand) []api.Rule {
	var l []api.Rule
	for range 1 + random.Intn(16) {
		r := randomRule(random)
		if !slices.ContainsFunc(l, func(x api.Rule) bool { return x.Name == r.Name }) {
			l = append(l, r)
		}
	}
	return l
}

// P11.1, P11.3: random rules.
func TestRandom(t *testing.T) {
	random := rand.New(rand.NewSource(2))
	for range 4000 {
		l := randomRules(random)
		taken(t, "random", l)
		l[random.Intn(len(l))] = wrong()[random.Intn(len(wrong()))]
		refused(t, "random", l)
	}
}

// P11.3: rules that differ have other texts.
func TestDiffer(t *testing.T) {
	var l []api.Rule
	for _, change := range []func(r *api.Rule){
		func(r *api.Rule) {},
		func(r *api.Rule) { r.Name = "c" },
		func(r *api.Rule) { r.Metric = "m" },
		func(r *api.Rule) { r.How = api.CAbove },
		func(r *api.Rule) { r.How = api.CFrom },
		func(r *api.Rule) { r.How = api.CBelow },
		func(r *api.Rule) { r.How = api.CIs },
		func(r *api.Rule) { r.Limit = 3 },
		func(r *api.Rule) { r.For = 20 },
		func(r *api.Rule) { r.Keep = 1000 },
		func(r *api.Rule) { r.For, r.Keep = 20, 1000 },
		func(r *api.Rule) { r.Labels = nil },
		func(r *api.Rule) { r.Labels = r.Labels[:1] },
		func(r *api.Rule) { r.Labels[0].Name = "S" },
		func(r *api.Rule) { r.Labels[1].Value = "6" },
	} {
		l = append(l, with(change))
	}
	for i, a := range l {
		for _, b := range l[:i] {
			x, e1 := Export([]api.Rule{a})
			y, e2 := Export([]api.Rule{b})
			if x == y || e1 != api.OK || e2 != api.OK {
				t.Errorf("%v and %v: %d, %d, %s", a, b, e1, e2, x)
			}
		}
	}
}

// R1, R4: calls answer the same again, whatever is done with what they answered, and lists that are handed in stay as they were, behind their ends, too.
func TestListsStay(t *testing.T) {
	handed := func() []api.Rule { return []api.Rule{full("z"), full("b"), full("a"), rule("more")} }
	l := handed()
	text := trueText([]api.Rule{full("z"), full("a")})
	for range 3 {
		s, e1 := Export(l[:3])
		got, e2, _ := Import(text)
		if e1 != api.OK || e2 != api.OK || s != trueText([]api.Rule{full("a"), full("b"), full("z")}) || !same(got, []api.Rule{full("z"), full("a")}) {
			t.Fatal(e1, e2, s, got)
		}
		for i := range got {
			for j := range got[i].Labels {
				got[i].Labels[j] = api.Label{Name: "other"}
			}
			_ = append(got[i].Labels, api.Label{Name: "more"})
			if i+1 < len(got) && !slices.Equal(got[i+1].Labels, full("a").Labels) {
				t.Fatalf("rules share labels: %v", got)
			}
			got[i] = api.Rule{}
		}
		_ = append(got, api.Rule{Name: "more"})
		if !Holds(l[:3]) || !same(l, handed()) {
			t.Fatalf("the rules came to be %v", l)
		}
	}
}
