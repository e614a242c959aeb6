package outline

import (
	"math"
	"math/rand"
	"slices"
	"strings"
	"testing"

	"transhipment/api"
)

const (
	nameBytes  = "abcdefghijklmnopqrstuvwxyz0123456789_"
	plainBytes = nameBytes + "ABCDEFGHIJKLMNOPQRSTUVWXYZ-./:"
)

func word(text string) api.Node { return api.Node{Kind: api.NWord, Word: text} }

func row(items ...api.Node) api.Node { return api.Node{Kind: api.NRow, Items: items} }

// named is a map of names, parted by blanks, and as many items, whether it may be or not.
func named(names string, items ...api.Node) api.Node {
	return api.Node{Kind: api.NMap, Names: strings.Fields(names), Items: items}
}

// long is a text of that many bytes.
func long(many int) string { return strings.Repeat("n", many) }

// words are that many.
func words(many int) []api.Node { return slices.Repeat([]api.Node{word("x")}, many) }

// names are that many, parted by blanks.
func names(many int) string {
	text := ""
	for i := range many {
		text += string([]byte{'a' + byte(i/26), 'a' + byte(i%26), ' '})
	}
	return text
}

// around is a node with that many rows and maps about it, by turns.
func around(n api.Node, many int) api.Node {
	for i := range many {
		if i%2 == 0 {
			n = row(n)
		} else {
			n = named("a", n)
		}
	}
	return n
}

// endless is a row that is its own item.
func endless() api.Node {
	items := make([]api.Node, 2)
	items[0], items[1] = row(items...), row(items...)
	return row(items...)
}

// same holds nodes against each other, part by part.
func same(a, b api.Node) bool {
	if a.Kind != b.Kind || a.Word != b.Word || len(a.Names) != len(b.Names) || len(a.Items) != len(b.Items) {
		return false
	}
	for i, name := range a.Names {
		if name != b.Names[i] {
			return false
		}
	}
	for i, item := range a.Items {
		if !same(item, b.Items[i]) {
			return false
		}
	}
	return true
}

// zero tells whether a node has nothing.
func zero(n api.Node) bool {
	return n.Kind == 0 && n.Word == "" && len(n.Names) == 0 && len(n.Items) == 0
}

// copied is a node that shares no list with another one.
func copied(n api.Node) api.Node {
	n.Names, n.Items = slices.Clone(n.Names), slices.Clone(n.Items)
	for i, item := range n.Items {
		n.Items[i] = copied(item)
	}
	return n
}

// randomOf is a text of some bytes, at the least and at the most so long.
func randomOf(r *rand.Rand, bytes string, least, most int) string {
	b := make([]byte, least+r.Intn(most-least+1))
	for i := range b {
		b[i] = bytes[r.Intn(len(bytes))]
	}
	return string(b)
}

// randomWord is a word that may be, mostly one of a few.
func randomWord(r *rand.Rand) api.Node {
	switch r.Intn(12) {
	case 0:
		return word(randomOf(r, plainBytes, 0, 200))
	case 1:
		return word(randomOf(r, plainBytes+` !"#$%&'()*+,;<=>?@[\]^{|}~`+"`", 0, 20))
	}
	return word([]string{"", "a", "-", "x-y", "-1", " ", "a b", `"`, `\`, `\"`, "[]", "{}", "#", "a: b"}[r.Intn(14)])
}

// randomNode is one that may be, at the most so deep.
func randomNode(r *rand.Rand, deep int) api.Node {
	kind := 1 + r.Intn(3)
	if deep == 1 || kind == api.NWord {
		return []api.Node{randomWord(r), row(), named("")}[r.Intn(3)]
	}
	n := api.Node{Kind: kind}
	for range r.Intn(4) {
		if kind == api.NMap {
			name := []string{"a", "b", "c", "0", "_"}[r.Intn(5)]
			if r.Intn(8) == 0 {
				name = randomOf(r, nameBytes, 1, 64)
			}
			if slices.Contains(n.Names, name) {
				continue
			}
			n.Names = append(n.Names, name)
		}
		n.Items = append(n.Items, randomNode(r, deep-1))
	}
	return n
}

// rightNodes are nodes that may be.
func rightNodes() []api.Node {
	return []api.Node{
		word(""),
		word("a"),
		word("-"),
		word(` "\`),
		word(long(200)),
		row(),
		row(word("")),
		row(word("a")),
		row(word("a"), word("a")),
		row(row()),
		row(named("")),
		row(words(64)...),
		named(""),
		named("a", word("")),
		named("a", word("a")),
		named("b", word("a")),
		named("a b", word("a"), word("a")),
		named("b a", word("a"), word("a")),
		named("a", row()),
		named("a", named("")),
		named("a", named("a", word("a"))),
		named("0 _ aa a", word("a"), row(), named(""), row(word("a"))),
		named(long(64), word("a")),
		named(names(64), words(64)...),
		around(word("a"), 7),
		around(row(), 7),
		around(named(""), 7),
		around(row(words(64)...), 6),
		around(named(names(64), words(64)...), 6),
		row(word("a"), around(word("a"), 6), word("a")),
	}
}

// wrongNodes are nodes that may not be, wherever they stand, and would, if one thing were another.
func wrongNodes() []api.Node {
	return []api.Node{
		{},
		{Kind: -1},
		{Kind: 4},
		{Kind: 4, Word: "a"},
		{Kind: math.MaxInt},
		{Kind: math.MinInt},
		{Word: "a"},
		{Items: words(1)},
		{Kind: api.NWord, Word: "a", Names: []string{"a"}},
		{Kind: api.NWord, Word: "a", Names: []string{""}},
		{Kind: api.NWord, Items: words(1)},
		{Kind: api.NWord, Names: []string{"a"}, Items: words(1)},
		{Kind: api.NRow, Word: "a"},
		{Kind: api.NRow, Word: " ", Items: words(1)},
		{Kind: api.NRow, Names: []string{"a"}},
		{Kind: api.NRow, Names: []string{"a"}, Items: words(1)},
		{Kind: api.NMap, Word: "a"},
		{Kind: api.NMap, Word: "a", Names: []string{"a"}, Items: words(1)},
		{Kind: api.NMap, Names: []string{"a"}},
		{Kind: api.NMap, Items: words(1)},
		{Kind: api.NMap, Names: []string{"a", "b"}, Items: words(1)},
		{Kind: api.NMap, Names: []string{"a"}, Items: words(2)},
		{Kind: api.NMap, Names: []string{""}, Items: words(1)},
		word("\n"),
		word("é"),
		word(long(201)),
		word(long(100000)),
		row(words(65)...),
		row(words(100000)...),
		named(names(65), words(65)...),
		named("A", word("a")),
		named("a-b", word("a")),
		named("a:", word("a")),
		named("é", word("a")),
		named(long(65), word("a")),
		named("a a", word("a"), word("a")),
		named("a b a", words(3)...),
		named("a b b", words(3)...),
		named(names(63)+"aa", words(64)...),
		named("a b A", words(3)...),
		around(word("a"), 8),
		around(row(), 8),
		around(named(""), 8),
		around(word("a"), 1<<16),
		row(word("a"), around(row(), 7)),
		endless(),
	}
}

// P5.1: nodes that may be, and how deep they may stand.
func TestRight(t *testing.T) {
	for _, n := range rightNodes() {
		if !Right(n) {
			t.Errorf("%.200v may not be", n)
		}
		deep := depth(n)
		for many := range 10 {
			if may := Right(around(n, many)); may != (deep+many <= 8) {
				t.Errorf("%.200v, %d deep, in %d more, may be: %v", n, deep, many, may)
			}
		}
	}
}

// depth is how deep a node is.
func depth(n api.Node) int {
	deepest := 0
	for _, item := range n.Items {
		deepest = max(deepest, depth(item))
	}
	return deepest + 1
}

// P5.1: what may not be, by itself and within another node, behind and ahead of others.
func TestRightWrong(t *testing.T) {
	for i, n := range wrongNodes() {
		for k, whole := range []api.Node{n, row(n), named("a", n), row(word("a"), n), row(n, word("a")), named("a b", n, word("a")), named("a b", row(), n), row(row(word("a")), named("a", row(n))), around(n, 6)} {
			if Right(whole) {
				t.Errorf("%d within %d may be", i, k)
			}
		}
	}
}

// P5.1: each byte in words and names, wherever it stands.
func TestRightBytes(t *testing.T) {
	for b := range 256 {
		one := string([]byte{byte(b)})
		for _, text := range []string{one, one + "a", "a" + one, "a" + one + "a", one + one, long(199) + one, one + long(199)} {
			if may := Right(word(text)); may != (b >= 32 && b <= 126) {
				t.Errorf("the word %q may be: %v", text, may)
			}
		}
		for _, text := range []string{one, one + "a", "a" + one, "a" + one + "a", one + one, long(63) + one, one + long(63)} {
			n := api.Node{Kind: api.NMap, Names: []string{text}, Items: words(1)}
			if may := Right(n); may != strings.Contains(nameBytes, one) {
				t.Errorf("the name %q may be: %v", text, may)
			}
		}
	}
}

// P5.1: nodes that are the same, and that are not, whether they may be or not.
func TestLike(t *testing.T) {
	all := append(rightNodes(), wrongNodes()...)
	all = all[:len(all)-1] // what is within itself has no end
	for i, a := range all {
		for k, b := range all {
			if i == k {
				b = copied(b)
			}
			if Like(a, b) != (i == k) || Like(row(a), row(b)) != (i == k) || Like(named("a b", word(""), a), named("a b", word(""), b)) != (i == k) {
				t.Errorf("%d is like %d: %v", i, k, i != k)
			}
		}
	}
	for _, c := range []struct {
		a, b api.Node
		want bool
	}{
		{api.Node{}, api.Node{}, true},
		{api.Node{Names: []string{}, Items: []api.Node{}}, api.Node{}, true},
		{api.Node{Kind: 9, Word: "a", Names: []string{"A"}, Items: words(2)}, api.Node{Kind: 9, Word: "a", Names: []string{"A"}, Items: words(2)}, true},
		{api.Node{Kind: 9}, api.Node{Kind: 8}, false},
		{word("a"), word("b"), false},
		{word("a"), word("A"), false},
		{word("a"), word("a "), false},
		{row(), named(""), false},
		{row(), word(""), false},
		{row(word("a"), word("b")), row(word("b"), word("a")), false},
		{row(word("a")), row(word("a"), word("a")), false},
		{named("a b", words(2)...), named("b a", words(2)...), false},
		{named("a b", words(2)...), named("a c", words(2)...), false},
		{named("a b", words(2)...), named("a", words(2)...), false},
		{named("a b", words(2)...), named("a b", words(1)...), false},
		{named("a b", word("a"), word("b")), named("a b", word("a"), word("c")), false},
		{around(word("a"), 7), around(word("b"), 7), false},
		{around(word("a"), 1<<16), around(word("a"), 1<<16), true},
		{around(word("a"), 1<<16), around(word("b"), 1<<16), false},
		{around(word("a"), 1<<16), around(word("a"), 1<<16-1), false},
	} {
		if Like(c.a, c.b) != c.want || Like(c.b, c.a) != c.want {
			t.Errorf("%.200v is like %.200v: %v", c.a, c.b, !c.want)
		}
	}
}

// P5.2: items of maps, whether these may be or not.
func TestGet(t *testing.T) {
	n := named("a b c d", word("1"), row(word("x")), named("e", word("y")), api.Node{})
	odd := named("a", word("1"))
	odd.Word = "odd"
	for _, c := range []struct {
		n    api.Node
		name string
		kind int
		want api.Node
	}{
		{n, "a", api.NWord, word("1")},
		{n, "b", api.NRow, row(word("x"))},
		{n, "c", api.NMap, named("e", word("y"))},
		{n, "d", 0, api.Node{}},
		{named("A", word("1")), "A", api.NWord, word("1")},
		{api.Node{Kind: api.NMap, Names: []string{""}, Items: words(1)}, "", api.NWord, word("x")},
		{named("a a", word("1"), word("2")), "a", api.NWord, word("1")},
		{named("b a a", row(), word("1"), row()), "a", api.NWord, word("1")},
		{named("a", word("\n")), "a", api.NWord, word("\n")},
		{named("a", api.Node{Kind: 7, Word: "z"}), "a", 7, api.Node{Kind: 7, Word: "z"}},
		{named("a b", row(words(65)...), word("")), "b", api.NWord, word("")},
		{named(names(100), words(100)...), "dv", api.NWord, word("x")},
		{odd, "a", api.NWord, word("1")},
	} {
		if got, e := Get(c.n, c.name, c.kind); !same(got, c.want) || e != api.OK {
			t.Errorf("%.200v has of %q, %d: %v, %d, not %v", c.n, c.name, c.kind, got, e, c.want)
		}
	}
	deep := around(word("a"), 1<<16)
	if got, e := Get(deep, "a", api.NRow); !same(got, deep.Items[0]) || e != api.OK {
		t.Errorf("of what is very deep: %d", e)
	}
	if got, e := Get(named("a", endless()), "a", api.NRow); len(got.Items) != 2 || e != api.OK {
		t.Errorf("of what is within itself: %d", e)
	}
}

// P5.2: what there is not.
func TestGetWrong(t *testing.T) {
	n := named("a b c d", word("1"), row(word("x")), named("e", word("y")), api.Node{})
	for _, c := range []struct {
		n    api.Node
		name string
		kind int
	}{
		{n, "a", api.NRow}, {n, "a", api.NMap}, {n, "a", 0}, {n, "a", -1}, {n, "a", math.MaxInt},
		{n, "b", api.NWord}, {n, "b", api.NMap}, {n, "c", api.NRow}, {n, "c", api.NWord}, {n, "d", api.NWord},
		{n, "e", api.NWord}, {n, "", api.NWord}, {n, "", 0}, {n, "A", api.NWord}, {n, "a ", api.NWord}, {n, "1", api.NWord},
		{named("a a", word("1"), row()), "a", api.NRow},
		{named(""), "a", api.NWord}, {named(""), "", 0},
		{named("a b", word("1")), "a", api.NWord},
		{named("a", word("1"), word("2")), "a", api.NWord},
		{named("", word("1")), "a", api.NWord},
		{named("a"), "a", api.NWord},
		{api.Node{}, "", 0}, {word("a"), "a", api.NWord}, {row(word("a")), "a", api.NWord}, {row(word("a")), "", api.NWord},
		{api.Node{Kind: api.NRow, Names: []string{"a"}, Items: words(1)}, "a", api.NWord},
		{api.Node{Kind: api.NWord, Names: []string{"a"}, Items: words(1)}, "a", api.NWord},
		{api.Node{Names: []string{"a"}, Items: words(1)}, "a", api.NWord},
		{api.Node{Kind: 4, Names: []string{"a"}, Items: words(1)}, "a", api.NWord},
	} {
		if got, e := Get(c.n, c.name, c.kind); !zero(got) || e != api.ErrSchema {
			t.Errorf("%v has of %q, %d: %v, %d", c.n, c.name, c.kind, got, e)
		}
	}
}

// R1, R4: lists that are handed in stay as they were, behind their ends, too, and calls answer the same again.
func TestListsStay(t *testing.T) {
	items := []api.Node{word("1"), row(word("a b"), word("-")), word("\n")}
	names := []string{"b", "a", "A"}
	n := api.Node{Kind: api.NMap, Names: names[:2], Items: items[:2]}
	whole := copied(api.Node{Names: names, Items: items})
	const want = "b: 1\na:\n  - \"a b\"\n  - \"-\"\n"
	for range 2 {
		got, e := Get(n, "a", api.NRow)
		if !same(got, row(word("a b"), word("-"))) || e != api.OK || !Right(n) || !Like(n, n) {
			t.Errorf("%v, %d", got, e)
		}
		if s, e := Print(n); s != want || e != api.OK {
			t.Errorf("its text is %q, %d", s, e)
		}
		read, e, line := Parse(want)
		if !same(read, n) || e != api.OK || line != 0 {
			t.Errorf("%q is read as %v, %d, %d", want, read, e, line)
		}
		read.Names[0], read.Items[1].Items[0] = "z", row() // no other answer has that
		if !same(whole, api.Node{Names: names, Items: items}) {
			t.Errorf("they came to be %q, %v", names, items)
		}
	}
}
