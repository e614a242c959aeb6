package rules

import (
	"math"
	"math/rand"
	"slices"
	"strings"
	"testing"

	"transhipment/api"
)

const (
	nameBytes = "abcdefghijklmnopqrstuvwxyz0123456789_"
	most      = 1099511627776 // of values and of ticks
)

// pairs are labels of names and values, one behind the other, in that order, whether they may be or not.
func pairs(words ...string) []api.Label {
	var l []api.Label
	for i := 0; i < len(words); i += 2 {
		l = append(l, api.Label{Name: words[i], Value: words[i+1]})
	}
	return l
}

// lettered are labels of one-letter names from one on, so many, each of the value given.
func lettered(from byte, many int, value string) []api.Label {
	var l []api.Label
	for i := range many {
		l = append(l, api.Label{Name: string([]byte{from + byte(i)}), Value: value})
	}
	return l
}

// long is a text of that many bytes.
func long(many int) string { return strings.Repeat("n", many) }

// low is a rule of which no part is as in one that has nothing.
func low() api.Rule {
	return api.Rule{Name: "low", Metric: "m", How: api.CBelow, Limit: -5, For: 1000, Keep: 20, Tries: 2, Labels: pairs("sev", "hi")}
}

// some are rules made of one, each with one thing changed.
func some(changes ...func(r *api.Rule)) []api.Rule {
	var l []api.Rule
	for _, change := range changes {
		r := low()
		change(&r)
		l = append(l, r)
	}
	return l
}

// of are rules, each with another one of some values for a thing.
func of[T any](set func(r *api.Rule, value T), values ...T) []api.Rule {
	var l []api.Rule
	for _, value := range values {
		l = append(l, some(func(r *api.Rule) { set(r, value) })...)
	}
	return l
}

// The things of a rule.
func setName(r *api.Rule, s string)          { r.Name = s }
func setMetric(r *api.Rule, s string)        { r.Metric = s }
func setHow(r *api.Rule, n int)              { r.How = n }
func setLimit(r *api.Rule, n int)            { r.Limit = n }
func setFor(r *api.Rule, n int)              { r.For = n }
func setKeep(r *api.Rule, n int)             { r.Keep = n }
func setTries(r *api.Rule, n int)            { r.Tries = n }
func setLabels(r *api.Rule, set []api.Label) { r.Labels = set }

// right are rules that may be.
func right() []api.Rule {
	words := []string{"x", "_", "0", "9a", "alert", "low", "m_0", nameBytes, long(64)}
	numbers := []int{0, 1, 9, 10, 60000, most - 1, most}
	return slices.Concat(
		[]api.Rule{{Name: "a", Metric: "b", How: api.CAbove, Tries: 1}},
		some(func(r *api.Rule) {}),
		of(setName, words...),
		of(setMetric, words...),
		of(setHow, api.CAbove, api.CFrom, api.CBelow, api.CTo, api.CIs),
		of(setLimit, -most, 1-most, -60000, -10, -9, -1),
		of(setLimit, numbers...),
		of(setFor, numbers...),
		of(setKeep, numbers...),
		of(setTries, 1, 2, 3, 4, 5, 6, 7, 8, 9, 10),
		of(setLabels, nil, []api.Label{}, pairs("a", "v"), lettered('a', 2, "v"), lettered('a', 3, "v"), lettered('a', 4, "v"),
			pairs("Alert", "v"), pairs("_alert", "v"), pairs("aler", "v"), pairs("alerts", "v"), pairs("a", "alert"), pairs("A", `"\`, "_", "a,b=", "a", " ", "z9", "{}"),
			pairs(long(64), strings.Repeat("~", 64))),
	)
}

// wrong are rules that may not be, and would, if one thing were another.
func wrong() []api.Rule {
	words := []string{"", "A", "x ", " x", "x y", "x-y", "x.y", "X", "é", "x\n", "\x00", "\xff", "x;", "m:n", long(65), long(10000), long(63) + "N", long(63) + "é"}
	numbers := []int{-1, -most, math.MinInt, most + 1, 2 * most, math.MaxInt}
	return slices.Concat(
		[]api.Rule{{}},
		of(setName, words...),
		of(setMetric, words...),
		of(setHow, 0, 6, 7, -1, -5, 100, 1<<32|1, 1<<32, math.MinInt, math.MaxInt),
		of(setLimit, -most-1, most+1, -2*most, 2*most, math.MinInt, math.MaxInt),
		of(setFor, numbers...),
		of(setKeep, numbers...),
		of(setTries, 0, 11, 12, -1, -10, 1<<32|1, math.MinInt, math.MaxInt),
		of(setLabels, lettered('a', 5, "v"), lettered('a', 8, "v"), lettered('a', 9, "v"),
			pairs("alert", "v"), pairs("alert", "low"), pairs("a", "v", "alert", "v"), pairs("alert", "v", "b", "v"), pairs("a", "v", "alert", "v", "b", "v", "c", "v"),
			pairs("a", "v", "a", "v"), pairs("a", "v", "a", "w"), pairs("b", "v", "a", "v"), pairs("a", "v", "Z", "v"),
			pairs("", "v"), pairs("1", "v"), pairs("a-", "v"), pairs(long(65), "v"), pairs("a", ""), pairs("a", "\x1f"), pairs("a", "\x7f"), pairs("a", long(65))),
	)
}

// trueFires tells whether a value fires, found in another way.
func trueFires(how, limit, value int) bool {
	switch {
	case value < limit:
		return how == api.CBelow || how == api.CTo
	case value > limit:
		return how == api.CAbove || how == api.CFrom
	}
	return how == api.CFrom || how == api.CTo || how == api.CIs
}

// randomOf is a text of some bytes, at the least and at the most so long.
func randomOf(r *rand.Rand, bytes string, least, most int) string {
	b := make([]byte, least+r.Intn(most-least+1))
	for i := range b {
		b[i] = bytes[r.Intn(len(bytes))]
	}
	return string(b)
}

// randomSet is a set that may be, of at most so many labels, whose names are often the same ones from set to set.
func randomSet(r *rand.Rand, most int) []api.Label {
	values := map[string]string{}
	for range r.Intn(most + 1) {
		values[[]string{"a", "b", "c", "d", "e", "f", "g", "h", "sev", "job", "Alert", "_"}[r.Intn(12)]] = randomOf(r, `ab "\,={}~`, 1, 5)
	}
	return setOf(values)
}

// setOf is the set of names with values.
func setOf(values map[string]string) []api.Label {
	var names []string
	for name := range values {
		names = append(names, name)
	}
	slices.Sort(names)
	var l []api.Label
	for _, name := range names {
		l = append(l, api.Label{Name: name, Value: values[name]})
	}
	return l
}

// randomRule is one that may be.
func randomRule(r *rand.Rand) api.Rule {
	number := func() int { return r.Intn(1+r.Intn(most+1)) >> r.Intn(41) }
	return api.Rule{
		Name:   randomOf(r, nameBytes, 1, 1+r.Intn(64)),
		Metric: randomOf(r, nameBytes, 1, 1+r.Intn(64)),
		How:    1 + r.Intn(5),
		Limit:  number() - number(),
		For:    number(),
		Keep:   number(),
		Tries:  1 + r.Intn(10),
		Labels: randomSet(r, 4),
	}
}

// P8.1: rules that may be.
func TestRight(t *testing.T) {
	for _, r := range right() {
		if !Right(r) {
			t.Errorf("%v may not be", r)
		}
	}
}

// P8.1, P8.2, P1: rules that may not be: nothing fires, and they have no labels and no words, whatever else is asked.
func TestWrong(t *testing.T) {
	for _, r := range wrong() {
		if Right(r) {
			t.Errorf("%.200v may be", r)
		}
		for _, value := range []int{0, 1, -1, -5, -4, -6, most, -most, r.Limit, math.MinInt, math.MaxInt} {
			if Fires(r, value) {
				t.Errorf("%d fires by %.200v", value, r)
			}
		}
		for _, l := range [][]api.Label{nil, pairs("a", "v"), lettered('p', 8, "v"), lettered('p', 9, "v")} {
			if got, e := Labels(r, l); len(got) != 0 || e != api.ErrArg {
				t.Errorf("the labels of %.200v with %v: %v, %d", r, l, got, e)
			}
		}
		if got, e := Words(r); len(got) != 0 || e != api.ErrArg {
			t.Errorf("the words of %.200v: %q, %d", r, got, e)
		}
		if !Like(r, r) || Like(r, low()) {
			t.Errorf("%.200v is like another one, or not like itself", r)
		}
	}
}

// P8.1: names and metrics that may be, each byte of them, and how long.
func TestRightWord(t *testing.T) {
	for _, set := range []func(r *api.Rule, s string){setName, setMetric} {
		for b := range 256 {
			one := string([]byte{byte(b)})
			for _, word := range []string{one, one + "x", "x" + one, "x" + one + "x"} {
				if got := Right(of(set, word)[0]); got != strings.Contains(nameBytes, one) {
					t.Errorf("%q may be: %v", word, got)
				}
			}
		}
		for many := range 200 {
			if got := Right(of(set, long(many))[0]); got != (many >= 1 && many <= 64) {
				t.Errorf("a word of %d bytes may be: %v", many, got)
			}
		}
	}
}

// P8.1: numbers that may be, about the least and the greatest.
func TestRightNumbers(t *testing.T) {
	for _, c := range []struct {
		set         func(r *api.Rule, n int)
		least, most int
	}{
		{setHow, 1, 5},
		{setLimit, -most, most},
		{setFor, 0, most},
		{setKeep, 0, most},
		{setTries, 1, 10},
	} {
		for off := -20; off <= 20; off++ {
			for _, n := range []int{off, c.least + off, c.most + off} {
				if got := Right(of(c.set, n)[0]); got != (n >= c.least && n <= c.most) {
					t.Errorf("%d, of %d to %d, may be: %v", n, c.least, c.most, got)
				}
			}
		}
	}
}

// P8.1: how many labels a rule may have, and of which names.
func TestRightLabels(t *testing.T) {
	for many := range 12 {
		if got := Right(of(setLabels, lettered('a', many, "v"))[0]); got != (many <= 4) {
			t.Errorf("%d labels may be: %v", many, got)
		}
	}
	for i := range 4 { // wherever it stands, it is not a rule's to give
		set := pairs("a", "v", "aa", "v", "b", "v", "c", "v")
		set[i] = api.Label{Name: "alert", Value: "low"}
		slices.SortFunc(set, func(a, b api.Label) int { return strings.Compare(a.Name, b.Name) })
		if Right(of(setLabels, set)[0]) {
			t.Errorf("%v may be", set)
		}
		for j, x := range set {
			if x.Name == "alert" {
				set[j].Name = "alerts"
			}
		}
		if !Right(of(setLabels, set)[0]) {
			t.Errorf("%v may not be", set)
		}
	}
}

// P8.1: values about a limit.
func TestFires(t *testing.T) {
	for _, c := range []struct {
		how, limit int
		fires      [3]bool // of the limit less 1, of it, and of it and 1
	}{
		{api.CAbove, 5, [3]bool{false, false, true}},
		{api.CFrom, 5, [3]bool{false, true, true}},
		{api.CBelow, 5, [3]bool{true, false, false}},
		{api.CTo, 5, [3]bool{true, true, false}},
		{api.CIs, 5, [3]bool{false, true, false}},
		{api.CAbove, 0, [3]bool{false, false, true}},
		{api.CFrom, 0, [3]bool{false, true, true}},
		{api.CBelow, -5, [3]bool{true, false, false}},
		{api.CTo, -most, [3]bool{true, true, false}},
		{api.CFrom, most, [3]bool{false, true, true}},
		{api.CIs, most, [3]bool{false, true, false}},
		{api.CIs, -most, [3]bool{false, true, false}},
	} {
		r := api.Rule{Name: "a", Metric: "b", How: c.how, Limit: c.limit, Tries: 1}
		for i, want := range c.fires {
			if value := c.limit - 1 + i; Fires(r, value) != want {
				t.Errorf("%d fires by %v: %v", value, r, !want)
			}
		}
	}
	for _, limit := range []int{-most, 1 - most, -6, -5, -1, 0, 1, 5, 6, most - 1, most} {
		for _, value := range []int{math.MinInt, -most - 1, -most, 1 - most, -6, -5, -1, 0, 1, 5, 6, most - 1, most, most + 1, math.MaxInt} {
			for how := 1; how <= 5; how++ {
				fires(t, api.Rule{Name: "a", Metric: "b", How: how, Limit: limit, Tries: 1}, value)
			}
		}
	}
}

// fires fails, if a value fires by a rule that may be, and should not, or does not, and should.
func fires(t *testing.T, r api.Rule, value int) {
	t.Helper()
	if got := Fires(r, value); got != trueFires(r.How, r.Limit, value) {
		t.Fatalf("%d fires by %v: %v", value, r, got)
	}
}

// P8.1: whether a value fires hangs on How and Limit alone.
func TestFiresOfRight(t *testing.T) {
	for _, r := range right() {
		for _, value := range []int{r.Limit - 1, r.Limit, r.Limit + 1, 0, -5, most, -most} {
			fires(t, r, value)
		}
	}
}

// P8.3: of two opposites just one fires; P8.1: random rules and values.
func TestOpposites(t *testing.T) {
	random := rand.New(rand.NewSource(1))
	for range 20000 {
		r := randomRule(random)
		for _, value := range []int{r.Limit - 1, r.Limit, r.Limit + 1, randomRule(random).Limit, -random.Int(), random.Int()} {
			fires(t, r, value)
			fired := map[int]bool{}
			for how := 1; how <= 5; how++ {
				r.How = how
				fired[how] = Fires(r, value)
			}
			if fired[api.CAbove] == fired[api.CTo] || fired[api.CBelow] == fired[api.CFrom] {
				t.Fatalf("%d against %d: %v", value, r.Limit, fired)
			}
			if fired[api.CIs] != (fired[api.CFrom] && fired[api.CTo]) || fired[api.CIs] != (value == r.Limit) {
				t.Fatalf("%d against %d: %v", value, r.Limit, fired)
			}
		}
	}
}

// P8.1: the labels of a rule's alert.
func TestLabels(t *testing.T) {
	for _, c := range []struct {
		own, l, want []api.Label
	}{
		{nil, nil, pairs("alert", "low")},
		{[]api.Label{}, []api.Label{}, pairs("alert", "low")},
		{nil, pairs("alert", "no"), pairs("alert", "low")},
		{nil, pairs("a", "v", "alert", "no", "b", "w"), pairs("a", "v", "alert", "low", "b", "w")},
		{nil, pairs("Z", "v", "z", "w"), pairs("Z", "v", "alert", "low", "z", "w")},
		{pairs("sev", "hi"), nil, pairs("alert", "low", "sev", "hi")},
		{pairs("sev", "hi"), pairs("sev", "lo"), pairs("alert", "low", "sev", "hi")},
		{pairs("sev", "hi"), pairs("alert", "no", "job", "j", "sev", "lo"), pairs("alert", "low", "job", "j", "sev", "hi")},
		{pairs("a", "1", "c", "3"), pairs("b", "2", "d", "4"), pairs("a", "1", "alert", "low", "b", "2", "c", "3", "d", "4")},
		{nil, lettered('a', 7, "v"), append(pairs("a", "v", "alert", "low"), lettered('b', 6, "v")...)},
		{nil, append(pairs("alert", "no"), lettered('b', 7, "v")...), append(pairs("alert", "low"), lettered('b', 7, "v")...)},
		{lettered('b', 4, "w"), append(pairs("alert", "no"), lettered('b', 7, "v")...), append(append(pairs("alert", "low"), lettered('b', 4, "w")...), lettered('f', 3, "v")...)},
		{lettered('b', 4, "w"), lettered('f', 3, "v"), append(append(pairs("alert", "low"), lettered('b', 4, "w")...), lettered('f', 3, "v")...)},
	} {
		r := low()
		r.Labels = c.own
		if got, e := Labels(r, c.l); !slices.Equal(got, c.want) || e != api.OK {
			t.Errorf("%v and %v are %v, %d, not %v", c.own, c.l, got, e, c.want)
		}
	}
}

// P8.1: the name that stands is the rule's, whatever it is.
func TestLabelsName(t *testing.T) {
	for _, r := range right() {
		for _, l := range [][]api.Label{nil, pairs("alert", "no"), pairs("a", "v", "sev", "lo")} {
			values := map[string]string{}
			for _, x := range append(slices.Clone(l), r.Labels...) {
				values[x.Name] = x.Value
			}
			values["alert"] = r.Name
			if got, e := Labels(r, l); !slices.Equal(got, setOf(values)) || e != api.OK {
				t.Errorf("the labels of %v with %v: %v, %d", r, l, got, e)
			}
		}
	}
}

// P8.1: sets that may not be, of labels that would be too many, too, and too many labels.
func TestLabelsWrong(t *testing.T) {
	for _, c := range []struct {
		own, l []api.Label
		want   api.Errno
	}{
		{nil, lettered('a', 9, "v"), api.ErrArg},
		{nil, pairs("", "v"), api.ErrArg},
		{nil, pairs("1", "v"), api.ErrArg},
		{nil, pairs("a", ""), api.ErrArg},
		{nil, pairs("a", "\n"), api.ErrArg},
		{nil, pairs("a", long(65)), api.ErrArg},
		{nil, pairs("b", "v", "a", "v"), api.ErrArg},
		{nil, pairs("a", "v", "a", "v"), api.ErrArg},
		{lettered('p', 4, "v"), append(lettered('a', 7, "v"), pairs("h", "")...), api.ErrArg},
		{lettered('p', 4, "v"), append(lettered('b', 7, "v"), pairs("a", "v")...), api.ErrArg},
		{pairs("alert", "v"), lettered('a', 8, "v"), api.ErrArg},
		{lettered('p', 5, "v"), lettered('a', 8, "v"), api.ErrArg},
		{nil, lettered('a', 8, "v"), api.ErrLong},
		{lettered('a', 4, "w"), lettered('a', 8, "v"), api.ErrLong},
		{lettered('p', 1, "v"), lettered('a', 7, "v"), api.ErrLong},
		{lettered('p', 1, "v"), append(pairs("alert", "no"), lettered('b', 7, "v")...), api.ErrLong},
		{lettered('p', 4, "v"), lettered('a', 4, "v"), api.ErrLong},
		{lettered('p', 4, "v"), lettered('a', 8, "v"), api.ErrLong},
	} {
		r := low()
		r.Labels = c.own
		if got, e := Labels(r, c.l); len(got) != 0 || e != c.want {
			t.Errorf("%v and %v are %v, %d, not %d", c.own, c.l, got, e, c.want)
		}
	}
}

// P8.1: random rules and sets.
func TestLabelsRandom(t *testing.T) {
	random := rand.New(rand.NewSource(2))
	full := 0
	for range 20000 {
		r, l := randomRule(random), randomSet(random, 8)
		if random.Intn(3) == 0 {
			values := map[string]string{"alert": "no"}
			for _, x := range l[:min(len(l), 7)] {
				values[x.Name] = x.Value
			}
			l = setOf(values)
		}
		values := map[string]string{}
		for _, x := range append(slices.Clone(l), r.Labels...) {
			values[x.Name] = x.Value
		}
		values["alert"] = r.Name
		want, wantE := setOf(values), api.OK
		if len(want) > 8 {
			want, wantE, full = nil, api.ErrLong, full+1
		}
		if got, e := Labels(r, l); !slices.Equal(got, want) || e != wantE {
			t.Fatalf("the labels of %v with %v: %v, %d, not %v, %d", r, l, got, e, want, wantE)
		}
	}
	if full < 500 || full > 15000 {
		t.Errorf("%d had too many", full)
	}
}

// P8.1: two rules are the same, if all is.
func TestLike(t *testing.T) {
	others := slices.Concat(
		of(setName, "", "lo", "low_", "m"),
		of(setMetric, "", "n", "mm", "low"),
		of(setHow, 0, api.CAbove, api.CFrom, api.CTo, api.CIs, 6),
		of(setLimit, 5, 0, -6, -4, -5+1<<32),
		of(setFor, 0, 999, 1001, -1000, 20),
		of(setKeep, 0, 19, 21, -20, 1000),
		of(setTries, 0, 1, 3, -2),
		of(setLabels, nil, pairs("sev", "lo"), pairs("se", "hi"), pairs("sev", "hi", "x", "y"), pairs("a", "b", "sev", "hi"), pairs("sev", "hi", "sev", "hi"), pairs("hi", "sev")),
	)
	for _, a := range others {
		if Like(a, low()) || Like(low(), a) {
			t.Errorf("%v is like %v", a, low())
		}
		if !Like(a, a) {
			t.Errorf("%v is not like itself", a)
		}
	}
	for _, a := range right() {
		b := a
		b.Labels = append([]api.Label{}, a.Labels...) // in other memory, and never nil
		if !Like(a, b) || !Like(b, a) {
			t.Errorf("%v is not like %v", a, b)
		}
	}
	if !Like(api.Rule{}, api.Rule{Labels: []api.Label{}}) {
		t.Error("no labels are not like none")
	}
	swapped := of(setLabels, pairs("a", "v", "b", "w"), pairs("b", "w", "a", "v"))
	if Like(swapped[0], swapped[1]) {
		t.Error("labels in another order are the same")
	}
}

// Ways: each How that may be has a sign of its own, and a closure.
func TestHows(t *testing.T) {
	signs := map[string]bool{}
	for i, h := range hows() {
		if i == 0 {
			if h.sign != "" || h.fires != nil {
				t.Errorf("0 is %q", h.sign)
			}
			continue
		}
		if h.sign == "" || signs[h.sign] {
			t.Errorf("%d is %q", i, h.sign)
		}
		signs[h.sign] = true
		for value := -1; value <= 1; value++ {
			if h.fires(value, 0) != trueFires(i, 0, value) || not(h.fires)(value, 0) == h.fires(value, 0) {
				t.Errorf("%d fires by %q: %v", value, h.sign, h.fires(value, 0))
			}
		}
	}
}
