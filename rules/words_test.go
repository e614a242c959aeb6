package rules

import (
	"fmt"
	"math/rand"
	"regexp"
	"slices"
	"strconv"
	"strings"
	"testing"

	"transhipment/api"
	"transhipment/label"
)

var (
	trueSigns = []string{"", ">", ">=", "<", "<=", "=="}
	wordIs    = regexp.MustCompile(`^[a-z0-9_]{1,64}\z`)
	numberIs  = regexp.MustCompile(`^(0|-?[1-9][0-9]{0,12})\z`)
)

// trueWords are a rule's, found in another way.
func trueWords(r api.Rule) []string {
	labels := ""
	for _, x := range r.Labels {
		labels += "," + x.Name + `="` + strings.NewReplacer(`"`, `\"`, `\`, `\\`).Replace(x.Value) + `"`
	}
	return []string{r.Name, r.Metric, trueSigns[r.How], fmt.Sprint(r.Limit), fmt.Sprint(r.For), fmt.Sprint(r.Keep), fmt.Sprint(r.Tries), "{" + strings.TrimPrefix(labels, ",") + "}"}
}

// trueNumber is the number of a word, and whether it is one of those, written so.
func trueNumber(word string, least, most int) (int, bool) {
	if !numberIs.MatchString(word) {
		return 0, false
	}
	n, err := strconv.Atoi(word)
	return n, err == nil && n >= least && n <= most
}

// trueRead is the rule of words, found in another way, and whether there is one.
func trueRead(l []string) (api.Rule, bool) {
	if len(l) != 8 || !wordIs.MatchString(l[0]) || !wordIs.MatchString(l[1]) {
		return api.Rule{}, false
	}
	how := slices.Index(trueSigns, l[2])
	limit, ok1 := trueNumber(l[3], -most, most)
	long, ok2 := trueNumber(l[4], 0, most)
	keep, ok3 := trueNumber(l[5], 0, most)
	tries, ok4 := trueNumber(l[6], 1, 10)
	labels, e := label.Parse(l[7])
	if how < 1 || !ok1 || !ok2 || !ok3 || !ok4 || e != api.OK || len(labels) > 4 || label.Get(labels, "alert") != "" {
		return api.Rule{}, false
	}
	return api.Rule{Name: l[0], Metric: l[1], How: how, Limit: limit, For: long, Keep: keep, Tries: tries, Labels: labels}, true
}

// same holds rules against each other, part by part.
func same(a, b api.Rule) bool { return fmt.Sprintf("%#v", plain(a)) == fmt.Sprintf("%#v", plain(b)) }

// plain has no empty labels that are not nil.
func plain(r api.Rule) api.Rule {
	r.Labels = append([]api.Label(nil), r.Labels...)
	return r
}

// read fails, if words are not read as they should be, or not written again; it tells whether they are those of a rule.
func read(t *testing.T, l []string) bool {
	t.Helper()
	was := slices.Clone(l)
	got, e := Read(l)
	if !slices.Equal(l, was) {
		t.Fatalf("%q came to be %q", was, l)
	}
	want, ok := trueRead(l)
	if !ok {
		if !same(got, api.Rule{}) || e != api.ErrSyntax {
			t.Fatalf("%.300q is read as %v, %d", l, got, e)
		}
		return false
	}
	if !same(got, want) || e != api.OK || !Right(got) {
		t.Fatalf("%q is read as %v, %d, not %v", l, got, e, want)
	}
	if again, e := Words(got); !slices.Equal(again, l) || e != api.OK {
		t.Fatalf("%q is written again as %q, %d", l, again, e)
	}
	return true
}

// written fails, if a rule has not the words that it should have, or they are not read as it.
func written(t *testing.T, r api.Rule) {
	t.Helper()
	want := trueWords(r)
	if got, e := Words(r); !slices.Equal(got, want) || e != api.OK {
		t.Fatalf("the words of %v are %q, %d, not %q", r, got, e, want)
	}
	if got, e := Read(want); !same(got, r) || !Like(got, r) || e != api.OK {
		t.Fatalf("%q is read as %v, %d, not %v", want, got, e, r)
	}
	if !read(t, want) {
		t.Fatalf("%q are those of none", want)
	}
}

// lowWords are those of the rule low.
func lowWords() []string {
	return []string{"low", "m", "<", "-5", "1000", "20", "2", `{sev="hi"}`}
}

// P8.2, P8.3: rules and their words, either way.
func TestWords(t *testing.T) {
	for _, c := range []struct {
		r    api.Rule
		want []string
	}{
		{low(), lowWords()},
		{api.Rule{Name: "a", Metric: "b", How: api.CAbove, Tries: 1}, []string{"a", "b", ">", "0", "0", "0", "1", "{}"}},
		{api.Rule{Name: "a", Metric: "b", How: api.CFrom, Limit: 5, For: 60000, Keep: 1, Tries: 10}, []string{"a", "b", ">=", "5", "60000", "1", "10", "{}"}},
		{api.Rule{Name: "a_1", Metric: "0", How: api.CTo, Limit: -most, For: most, Keep: most, Tries: 9}, []string{"a_1", "0", "<=", "-1099511627776", "1099511627776", "1099511627776", "9", "{}"}},
		{api.Rule{Name: "_", Metric: "_", How: api.CIs, Limit: most, Tries: 3, Labels: pairs("A", `"`, "b", `\`, "c", ",", "d", "}")}, []string{"_", "_", "==", "1099511627776", "0", "0", "3", `{A="\"",b="\\",c=",",d="}"}`}},
	} {
		if got, e := Words(c.r); !slices.Equal(got, c.want) || e != api.OK {
			t.Errorf("the words of %v are %q, %d, not %q", c.r, got, e, c.want)
		}
		if got, e := Read(c.want); !same(got, c.r) || e != api.OK {
			t.Errorf("%q is read as %v, %d, not %v", c.want, got, e, c.r)
		}
	}
	for _, r := range right() {
		written(t, r)
	}
}

// P8.2: words of no rule, one of them another.
func TestReadWrong(t *testing.T) {
	words := []string{"", "A", "x ", " x", "x-y", "x\n", "\x00", "\xff", "é", long(65), long(1 << 20)}
	numbers := []string{
		"", " ", "-", "+", "x", "00", "-0", "+0", "+1", "01", "-01", "-05", "007", " 1", "1 ", "1\n", "1\x00", "\x001", "--1", "- 1", "1-", "1_0", "_1", "1,000", "1.0", "1.", ".1", "1e3", "0x1", "0b1", "0o1", "1a", "a1", "٣", "１",
		"1099511627777", "-1099511627777", "2199023255552", "9223372036854775807", "-9223372036854775808", "9223372036854775808", "-9223372036854775809", "18446744073709551616", "18446744073709551617", strings.Repeat("9", 1000), "-" + strings.Repeat("9", 1000), strings.Repeat("0", 1000) + "1",
	}
	for i, wrongs := range [][]string{
		words,
		words,
		{"", " ", "=", "!=", "=>", "=<", ">>", "<>", "<<", "===", "> ", " >", ">=\n", "==\x00", ">==", "1", "above", "≥", "=~", strings.Repeat(">", 1000)},
		numbers,
		append(numbers, "-1", "-5"),
		append(numbers, "-1", "-5"),
		append(numbers, "0", "-1", "11", "12", "100", "1099511627776"),
		{"", "{", "}", "{}}", "{{}", " {}", "{} ", "{}\n", "[]", "{,}", `{a="b"`, `a="b"}`, `{a="b",}`, `{,a="b"}`, `{a=b}`, `{a="b", c="d"}`, `{a = "b"}`, `{a=""}`, `{="b"}`, `{1="b"}`, `{a-="b"}`, `{a="b"c="d"}`, `{a="b",a="b"}`, `{a="b",a="c"}`, `{b="b",a="a"}`, `{a="""}`, `{a="\"}`, `{a="\a"}`, "{a=\"\n\"}",
			`{alert="low"}`, `{alert="x"}`, `{a="v",alert="x"}`, `{alert="x",b="v"}`, `{a="v",b="v",c="v",d="v",e="v"}`, `{a="v",b="v",c="v",d="v",e="v",f="v",g="v",h="v"}`, `{a="v",b="v",c="v",d="v",e="v",f="v",g="v",h="v",i="v"}`, `{` + long(65) + `="v"}`, `{a="` + long(65) + `"}`, "{" + strings.Repeat(`a="b",`, 1000) + "}"},
	} {
		for _, word := range wrongs {
			l := lowWords()
			l[i] = word
			if got, e := Read(l); !same(got, api.Rule{}) || e != api.ErrSyntax {
				t.Errorf("%.200q as word %d is read as %v, %d", word, i, got, e)
			}
			read(t, l)
		}
	}
}

// P8.2: too few words, and too many, and words at other places.
func TestReadMany(t *testing.T) {
	for many := range 8 {
		if read(t, lowWords()[:many]) || read(t, lowWords()[many+1:]) || read(t, append(lowWords(), lowWords()[:many+1]...)) {
			t.Errorf("%d words are those of a rule", many)
		}
		if read(t, slices.Delete(lowWords(), many, many+1)) {
			t.Errorf("they are those of a rule without word %d", many)
		}
		for _, word := range []string{"", "0", "1", "x", "{}", lowWords()[many]} {
			if read(t, slices.Insert(lowWords(), many, word)) || read(t, append(lowWords(), word)) {
				t.Errorf("they are those of a rule with %q at %d", word, many)
			}
		}
	}
	for _, l := range [][]string{nil, {}, make([]string, 7), make([]string, 8), make([]string, 9), make([]string, 1<<16), {strings.Join(lowWords(), " ")}, append([]string{""}, lowWords()...)} {
		if read(t, l) {
			t.Errorf("%.200q are those of a rule", l)
		}
	}
	for i := range 8 {
		for k := range i {
			l := lowWords()
			l[i], l[k] = l[k], l[i]
			read(t, l)
		}
	}
}

// P8.2, P8.3: words with a byte changed, taken out or put in, wherever it is.
func TestReadChanged(t *testing.T) {
	full := []string{"a_9", "m", ">=", "-1099511627776", "1099511627775", "10", "9", `{A="\"",b="\\",c=",",d="}"}`}
	of, not := 0, 0
	for _, words := range [][]string{lowWords(), full, {"alert", "0", "==", "0", "0", "0", "10", "{}"}, {"z", "z", "<=", "9", "90", "900", "1", `{alerts="x"}`}} {
		for w, word := range words {
			with := func(changed string) {
				l := slices.Clone(words)
				l[w] = changed
				if read(t, l) {
					of++
				} else {
					not++
				}
			}
			for i := range len(word) + 1 {
				with(word[:i])
				with(word[i:])
				for b := range 256 {
					one := string([]byte{byte(b)})
					with(word[:i] + one + word[i:])
					if i < len(word) {
						with(word[:i] + one + word[i+1:])
					}
				}
				if i < len(word) {
					with(word[:i] + word[i+1:])
				}
			}
		}
	}
	if of < 1000 || not < 1000 {
		t.Errorf("%d are those of a rule, %d are not", of, not)
	}
}

// P8.2: all numbers of few digits, at each place of one.
func TestReadNumbers(t *testing.T) {
	for n := -1200; n <= 1200; n++ {
		for _, text := range []string{strconv.Itoa(n), fmt.Sprintf("%03d", n), fmt.Sprintf("%+d", n), fmt.Sprintf("%x", n), fmt.Sprintf("%d ", n)} {
			for i := 3; i <= 6; i++ {
				l := lowWords()
				l[i] = text
				read(t, l)
			}
		}
	}
	for off := -3; off <= 3; off++ {
		for _, n := range []int{most + off, -most + off} {
			for i := 3; i <= 6; i++ {
				l := lowWords()
				l[i] = strconv.Itoa(n)
				read(t, l)
			}
		}
	}
}

// P8.2, P8.3: random rules, and words of random pieces.
func TestWordsRandom(t *testing.T) {
	random := rand.New(rand.NewSource(3))
	pieces := []string{"", "a", "m_1", "A", ">", ">=", "<", "<=", "==", "=", "0", "1", "10", "11", "-1", "01", "1099511627776", "1099511627777", "{}", `{a="b"}`, `{alert="b"}`, "{", "\n"}
	of := 0
	for range 50000 {
		r := randomRule(random)
		written(t, r)
		words := trueWords(r)
		for range 1 + random.Intn(2) {
			words[random.Intn(8)] = pieces[random.Intn(len(pieces))]
		}
		if read(t, words) {
			of++
		}
	}
	if of < 1000 || of > 49000 {
		t.Errorf("%d are those of a rule", of)
	}
}

// P8.3: rules that differ have other words.
func TestWordsDiffer(t *testing.T) {
	rules := slices.Concat(right(), of(setLimit, 1000, 20, 2), of(setFor, 20, 2), of(setKeep, 1000, 2))
	for i, a := range rules {
		for _, b := range rules[:i] {
			x, _ := Words(a)
			y, _ := Words(b)
			if slices.Equal(x, y) != Like(a, b) {
				t.Errorf("%v and %v are like: %v; their words are %q and %q", a, b, Like(a, b), x, y)
			}
		}
	}
}

// R1, R4: calls answer the same again, whatever is done with what they answered, and lists that are handed in stay as they were, behind their ends, too.
func TestListsStay(t *testing.T) {
	words := append(lowWords(), "more")
	set := pairs("a", "1", "alert", "2", "sev", "3", "z", "4")
	own := pairs("sev", "hi", "t", "5", "z", "6")
	r := low()
	for range 3 {
		r.Labels = own[:2]
		laid, e1 := Labels(r, set[:3])
		alone, e2 := Labels(r, nil)
		written, e3 := Words(r)
		read, e4 := Read(words[:8])
		if e1 != api.OK || e2 != api.OK || e3 != api.OK || e4 != api.OK {
			t.Fatal(e1, e2, e3, e4)
		}
		if !slices.Equal(laid, pairs("a", "1", "alert", "low", "sev", "hi", "t", "5")) || !slices.Equal(alone, pairs("alert", "low", "sev", "hi", "t", "5")) ||
			!slices.Equal(written, []string{"low", "m", "<", "-5", "1000", "20", "2", `{sev="hi",t="5"}`}) || !Like(read, low()) {
			t.Fatalf("%v, %v, %q, %v", laid, alone, written, read)
		}
		for _, got := range [][]api.Label{laid, alone, read.Labels} {
			for i := range got {
				got[i] = api.Label{Name: "other"}
			}
			_ = append(got, api.Label{Name: "more"})
		}
		for i := range written {
			written[i] = "other"
		}
		Right(r)
		Fires(r, 1)
		Like(r, r)
		if !slices.Equal(words, append(lowWords(), "more")) || !slices.Equal(set, pairs("a", "1", "alert", "2", "sev", "3", "z", "4")) || !slices.Equal(own, pairs("sev", "hi", "t", "5", "z", "6")) {
			t.Fatalf("lists came to be %q, %v, %v", words, set, own)
		}
	}
}
