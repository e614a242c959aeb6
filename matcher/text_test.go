package matcher

import (
	"math/rand"
	"regexp"
	"slices"
	"strings"
	"testing"

	"transhipment/api"
)

// whole is what a matcher's text looks like, its lengths, numbers and order left aside.
var whole = regexp.MustCompile(`^([A-Za-z_][A-Za-z0-9_]*)(=|!=|=~|!~)"([A-Za-z0-9_./:|-]*)"\z`)

// trueParse is the matcher of a text, found in another way.
func trueParse(s string) (api.Matcher, bool) {
	found := whole.FindStringSubmatch(s)
	if found == nil || len(found[1]) > 64 {
		return api.Matcher{}, false
	}
	m := of(found[1], 1+slices.Index([]string{"=", "!=", "=~", "!~"}, found[2]), strings.Split(found[3], "|")...)
	if len(m.Words) > 8 || len(m.Words) > 1 && m.How <= api.MNot {
		return api.Matcher{}, false
	}
	for i, word := range m.Words {
		if len(word) > 64 || i > 0 && m.Words[i-1] >= word {
			return api.Matcher{}, false
		}
	}
	return m, true
}

// parsed fails, if a text is not read as it should be; it tells whether it is that of a matcher.
func parsed(t *testing.T, s string) bool {
	t.Helper()
	got, e := Parse(s)
	want, may := trueParse(s)
	if !may {
		if !zero(got) || e != api.ErrSyntax {
			t.Fatalf("%#v is read as %#v, %d", s, got, e)
		}
		return false
	}
	if !same(got, want) || e != api.OK || !Right(got) {
		t.Fatalf("%#v is read as %#v, %d, not %#v", s, got, e, want)
	}
	if again, e := Text(got); again != s || e != api.OK {
		t.Fatalf("%q is written again as %q, %d", s, again, e)
	}
	return true
}

// P4.2, P4.3: matchers and their texts, either way.
func TestTextAndParse(t *testing.T) {
	for _, c := range []struct {
		m    api.Matcher
		want string
	}{
		{of("a", api.MIs, "b"), `a="b"`},
		{of("a", api.MNot, "b"), `a!="b"`},
		{of("a", api.MOne, "b"), `a=~"b"`},
		{of("a", api.MNone, "b"), `a!~"b"`},
		{of("a", api.MIs, ""), `a=""`},
		{of("a", api.MNot, ""), `a!=""`},
		{of("a", api.MOne, ""), `a=~""`},
		{of("a", api.MNone, ""), `a!~""`},
		{of("a", api.MOne, "b", "c"), `a=~"b|c"`},
		{of("a", api.MNone, "b", "c"), `a!~"b|c"`},
		{of("a", api.MOne, "", "b"), `a=~"|b"`},
		{of("a", api.MNone, "", "-", ".", "/", "0", ":", "A", "_"), `a!~"|-|.|/|0|:|A|_"`},
		{of("a", api.MOne, letters(8)...), `a=~"a|b|c|d|e|f|g|h"`},
		{of("_Az09", api.MIs, "x-y.z/0:9_A"), `_Az09="x-y.z/0:9_A"`},
		{of(long(64), api.MNot, long(64)), long(64) + `!="` + long(64) + `"`},
		{of("a", api.MOne, long(63), long(64)), `a=~"` + long(63) + `|` + long(64) + `"`},
	} {
		if s, e := Text(c.m); s != c.want || e != api.OK {
			t.Errorf("the text of %#v is %s, %d, not %s", c.m, s, e, c.want)
		}
		if m, e := Parse(c.want); !same(m, c.m) || e != api.OK {
			t.Errorf("%s is read as %#v, %d, not %#v", c.want, m, e, c.m)
		}
	}
	for _, m := range rightMatchers() {
		s, e := Text(m)
		if got, e2 := Parse(s); !same(got, m) || e != api.OK || e2 != api.OK || !Like(got, m) {
			t.Errorf("%#v, written, %s, %d, is read as %#v, %d", m, s, e, got, e2)
		}
	}
}

// P4.2: what has no text.
func TestTextWrong(t *testing.T) {
	for _, m := range wrongMatchers() {
		if s, e := Text(m); s != "" || e != api.ErrArg {
			t.Errorf("the text of %#v is %s, %d", m, s, e)
		}
	}
}

// P4.2: texts of no matchers.
func TestParseWrong(t *testing.T) {
	for _, s := range []string{
		``, `a`, `=`, `"`, `""`, `="`, `a=`, `a="`, `a"`, `a""`, `a"b"`, `=""`, `="b"`, `!="b"`, `=~"b"`, `!~"b"`, `"b"`,
		`a=b`, `a='b'`, `a="b`, `a=b"`, `a!b`, `a="b"c`, `a="b" `, ` a="b"`, "a=\"b\"\n", `a ="b"`, `a= "b"`, `a=" b"`, `a="b "`, `{a="b"}`, `a="b",`,
		`a=="b"`, `a!"b"`, `a~"b"`, `a~="b"`, `a=!"b"`, `a!!"b"`, `a=~~"b"`, `a!=~"b"`, `a!=="b"`, `a=~="b"`, `a~~"b"`, `a:="b"`, `a<"b"`, `a>="b"`,
		`a=""b"`, `a="b""`, `a="""`, `a="\""`, `a="\\"`, `a="b"="c"`, `a="b=~"c"`,
		`1="b"`, `a-="b"`, `a.b="c"`, `é="b"`, "a\x00=\"b\"",
		`a="b|c"`, `a!="b|c"`, `a="|"`, `a="b|"`, `a="|b"`, `a!="|"`,
		`a=~"c|b"`, `a=~"b|b"`, `a=~"b|"`, `a=~"|"`, `a=~"||"`, `a!~"b||c"`, `a!~"a|c|b"`, `a!~"bb|b"`, `a=~"a|Z"`,
		`a=~"a|b|c|d|e|f|g|h|i"`, `a!~"a|b|c|d|e|f|g|h|i"`, `a=~"|a|b|c|d|e|f|g|h"`, `a=~"a|b|c|d|e|f|g|h|"`,
		`a=" "`, `a=~"b c"`, `a="b*"`, `a=~"b.*"`, `a="é"`, "a=\"\xff\"", "a=\"\x00\"", `a="b,c"`, `a="(b)"`, `a="b\c"`,
		long(65) + `="b"`, `a="` + long(65) + `"`, `a=~"b|` + long(65) + `"`, `a!="` + long(65) + `"`,
		`a=~"` + strings.Repeat("b|", 100000) + `"`, `a="` + strings.Repeat(`"`, 100000), strings.Repeat("a=~", 100000) + `"b"`, long(100000) + `="b"`,
	} {
		if m, e := Parse(s); !zero(m) || e != api.ErrSyntax {
			t.Errorf("%.200q is read as %#v, %d", s, m, e)
		}
	}
}

// P4.2, P4.3: each short text of the bytes that the form is made of.
func TestShortTexts(t *testing.T) {
	const bytes = "=!~\"|ab1- "
	matchers := 0
	var extend func(s string, left int)
	extend = func(s string, left int) {
		for _, text := range []string{s, "a" + s + `"`, `a=~"` + s + `"`, `b!="` + s + `"`} {
			if parsed(t, text) {
				matchers++
			}
		}
		if left == 0 {
			return
		}
		for i := range len(bytes) {
			extend(s+bytes[i:i+1], left-1)
		}
	}
	extend("", 5)
	if matchers < 1000 {
		t.Errorf("%d were matchers", matchers)
	}
}

// P4.3: matchers of any kind are read as they were written; what is read, changed here and there, is written the same, or refused.
func TestAnyTexts(t *testing.T) {
	r := rand.New(rand.NewSource(3))
	still, refused := 0, 0
	for range 30000 {
		m := randomMatcher(r)
		s, e := Text(m)
		if e != api.OK {
			t.Fatalf("the text of %#v: %d", m, e)
		}
		if got, e := Parse(s); !same(got, m) || e != api.OK {
			t.Fatalf("%s is read as %#v, %d, not %#v", s, got, e, m)
		}
		changed := []byte(s)
		at := r.Intn(len(changed))
		switch r.Intn(3) {
		case 0:
			changed[at] = "=!~\"|ab1 \xff"[r.Intn(10)]
		case 1:
			changed = slices.Delete(changed, at, at+1)
		case 2:
			changed = slices.Insert(changed, at, "=!~\"|ab1-\x1f"[r.Intn(10)])
		}
		if parsed(t, string(changed)) {
			still++
		} else {
			refused++
		}
	}
	if still < 2000 || refused < 2000 {
		t.Errorf("%d were matchers, %d were not", still, refused)
	}
}

// P1: texts of bytes of any kind.
func TestAnyBytes(t *testing.T) {
	r := rand.New(rand.NewSource(4))
	for range 20000 {
		b := make([]byte, r.Intn(40))
		r.Read(b)
		parsed(t, string(b))
		parsed(t, `a="`+string(b)+`"`)
		parsed(t, string(b)+`="b"`)
	}
}
