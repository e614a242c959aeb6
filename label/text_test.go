package label

import (
	"math/rand"
	"regexp"
	"slices"
	"strings"
	"testing"

	"transhipment/api"
)

// oneLabel is what a label's text looks like, its lengths left aside; the whole is some of them between braces.
const oneLabel = `([A-Za-z_][A-Za-z0-9_]*)="((?:[ !#-\[\]-~]|\\"|\\\\)+)"`

var (
	labels = regexp.MustCompile(oneLabel)
	whole  = regexp.MustCompile(`^\{(?:` + oneLabel + `(?:,` + oneLabel + `)*)?\}\z`)
)

// trueParse is the set of a text, found in another way.
func trueParse(s string) ([]api.Label, bool) {
	if !whole.MatchString(s) {
		return nil, false
	}
	var l []api.Label
	for _, m := range labels.FindAllStringSubmatch(s, -1) {
		value := strings.NewReplacer(`\\`, `\`, `\"`, `"`).Replace(m[2])
		if len(m[1]) > 64 || len(value) > 64 || len(l) > 0 && l[len(l)-1].Name >= m[1] {
			return nil, false
		}
		l = append(l, api.Label{Name: m[1], Value: value})
	}
	return l, len(l) <= 8
}

// parsed fails, if a text is not read as it should be; it tells whether it is that of a set.
func parsed(t *testing.T, s string) bool {
	t.Helper()
	got, e := Parse(s)
	want, may := trueParse(s)
	if !may {
		if len(got) != 0 || e != api.ErrSyntax {
			t.Fatalf("%q is read as %q, %d", s, got, e)
		}
		return false
	}
	if !slices.Equal(got, want) || e != api.OK {
		t.Fatalf("%q is read as %q, %d, not %q", s, got, e, want)
	}
	if again, e := Text(got); again != s || e != api.OK {
		t.Fatalf("%q is written again as %q, %d", s, again, e)
	}
	return true
}

// P3.2, P3.4: sets and their texts, either way.
func TestTextAndParse(t *testing.T) {
	for _, c := range []struct {
		l    []api.Label
		want string
	}{
		{nil, `{}`},
		{[]api.Label{}, `{}`},
		{pairs("a", "b"), `{a="b"}`},
		{pairs("a", "b", "c", "d"), `{a="b",c="d"}`},
		{pairs("_", " "), `{_=" "}`},
		{pairs("a", `"`), `{a="\""}`},
		{pairs("a", `\`), `{a="\\"}`},
		{pairs("a", `\"`), `{a="\\\""}`},
		{pairs("a", `"\`), `{a="\"\\"}`},
		{pairs("a", `\n`), `{a="\\n"}`},
		{pairs("a", `b",c="d`), `{a="b\",c=\"d"}`},
		{pairs("a", `}`), `{a="}"}`},
		{pairs("a", `{}`), `{a="{}"}`},
		{pairs("a", `,`), `{a=","}`},
		{pairs("a", `="`, "b", `=`), `{a="=\"",b="="}`},
		{pairs("Az_09", `!~ 'x'`), `{Az_09="!~ 'x'"}`},
		{lettered('a', 8, "v"), `{a="v",b="v",c="v",d="v",e="v",f="v",g="v",h="v"}`},
		{pairs(long(64), strings.Repeat(`"`, 64)), `{` + long(64) + `="` + strings.Repeat(`\"`, 64) + `"}`},
	} {
		if s, e := Text(c.l); s != c.want || e != api.OK {
			t.Errorf("the text of %q is %s, %d, not %s", c.l, s, e, c.want)
		}
		if l, e := Parse(c.want); !slices.Equal(l, c.l) || e != api.OK {
			t.Errorf("%s is read as %q, %d, not %q", c.want, l, e, c.l)
		}
	}
}

// P3.2: what has no text.
func TestTextWrong(t *testing.T) {
	for _, l := range badLists() {
		if s, e := Text(l); s != "" || e != api.ErrArg {
			t.Errorf("the text of %q is %s, %d", l, s, e)
		}
	}
}

// P3.2: texts of no sets.
func TestParseWrong(t *testing.T) {
	for _, s := range []string{
		``, `{`, `}`, `{}}`, `{{}`, `{{}}`, `{} `, ` {}`, `{ }`, "{}\n", "{}\x00", `}{`, `{}{}`, `a="b"`, `(a="b")`,
		`{,}`, `{a}`, `{a=}`, `{a="}`, `{a="b}`, `{a=b"}`, `{a=b}`, `{a"b"}`, `{"b"}`, `{="b"}`, `{a='b'}`, `{a:"b"}`,
		`{a=""}`, `{a=""b"}`, `{a="b""}`, `{a="b"c}`, `{a=="b"}`, `{a="b"`, `a="b"}`, `{a= "b"}`, `{a ="b"}`, `{ a="b"}`, `{a="b" }`,
		`{a="b",}`, `{,a="b"}`, `{a="b",,c="d"}`, `{a="b", c="d"}`, `{a="b";c="d"}`, `{a="b"c="d"}`, `{a="b",c}`,
		`{a="\"}`, `{a="\`, `{a="\}`, `{a="\\\"}`, `{a="\n"}`, `{a="\a"}`, `{a="b\ "}`, `{a="b\}"}`, `{a="\x41"}`,
		`{1="b"}`, `{a-="b"}`, `{é="b"}`, `{a="é"}`, "{a=\"\n\"}", "{a=\"\x7f\"}", "{a=\"\x1f\"}", "{a\x00=\"b\"}",
		`{a="b",a="b"}`, `{a="b",a="c"}`, `{b="1",a="1"}`, `{a="1",c="1",b="1"}`, `{aa="1",a="1"}`, `{a="1",Z="1"}`,
		`{a="v",b="v",c="v",d="v",e="v",f="v",g="v",h="v",i="v"}`,
		`{a="v",b="v",c="v",d="v",e="v",f="v",g="v",h="v",}`,
		`{a="v",b="v",c="v",d="v",e="v",f="v",g="v",h="v",i}`,
		`{` + long(65) + `="v"}`, `{a="` + long(65) + `"}`, `{a="` + strings.Repeat(`\\`, 65) + `"}`,
		`{` + strings.Repeat(`a="v",`, 100000) + `}`, strings.Repeat(`{`, 100000) + strings.Repeat(`}`, 100000),
	} {
		if l, e := Parse(s); len(l) != 0 || e != api.ErrSyntax {
			t.Errorf("%.200q is read as %q, %d", s, l, e)
		}
	}
}

// P3.2, P3.4: each short text of the bytes that the form is made of.
func TestShortTexts(t *testing.T) {
	const bytes = "{}=\",\\ab"
	sets := 0
	var extend func(s string, left int)
	extend = func(s string, left int) {
		for _, text := range []string{s, "{" + s + "}", `{a="` + s + `"}`} {
			if parsed(t, text) {
				sets++
			}
		}
		if left == 0 {
			return
		}
		for i := range len(bytes) {
			extend(s+bytes[i:i+1], left-1)
		}
	}
	extend("", 5)
	if sets < 1000 {
		t.Errorf("%d were sets", sets)
	}
}

// P3.4: sets of any kind are read as they were written; what is read, changed here and there, is written the same, or refused.
func TestAnyTexts(t *testing.T) {
	r := rand.New(rand.NewSource(4))
	still, refused := 0, 0
	for range 20000 {
		l := randomSet(r, 8)
		s, e := Text(l)
		if e != api.OK {
			t.Fatalf("the text of %q: %d", l, e)
		}
		if got, e := Parse(s); !slices.Equal(got, l) || e != api.OK {
			t.Fatalf("%s is read as %q, %d, not %q", s, got, e, l)
		}
		changed := []byte(s)
		at := r.Intn(len(changed))
		switch r.Intn(3) {
		case 0:
			changed[at] = "{}=\",\\a1 \xff"[r.Intn(10)]
		case 1:
			changed = slices.Delete(changed, at, at+1)
		case 2:
			changed = slices.Insert(changed, at, "{}=\",\\a1 \x1f"[r.Intn(10)])
		}
		if parsed(t, string(changed)) {
			still++
		} else {
			refused++
		}
	}
	if still < 2000 || refused < 2000 {
		t.Errorf("%d were sets, %d were not", still, refused)
	}
}

// P1: texts of bytes of any kind.
func TestAnyBytes(t *testing.T) {
	r := rand.New(rand.NewSource(5))
	for range 20000 {
		b := make([]byte, r.Intn(40))
		r.Read(b)
		parsed(t, string(b))
		parsed(t, "{"+string(b)+"}")
		parsed(t, `{a="`+string(b)+`"}`)
	}
}
