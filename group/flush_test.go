package group

import (
	"fmt"
	"math"
	"slices"
	"testing"

	"transhipment/api"
)

// answer is what Flush answers.
type answer struct {
	groups []api.Group
	notes  []api.Note
	e      api.Errno
}

// flush is Flush, that fails, if an argument is another one behind it, or the groups may not be.
func flush(t *testing.T, c api.Config, g []api.Group, quiet []string, now int) answer {
	t.Helper()
	ahead, texts := copied(g), slices.Clone(quiet)
	groups, notes, e := Flush(c, g, quiet, now)
	if !likeGroups(g, ahead) || !slices.Equal(quiet, texts) {
		t.Errorf("%s was changed to %s", show(ahead), show(g))
	}
	if e == api.OK && !Right(c.Route, groups) {
		t.Errorf("%s may not be", show(groups))
	}
	if e != api.OK && len(groups)+len(notes) > 0 {
		t.Errorf("beside %d are %s and %s", e, show(groups), show(notes))
	}
	return answer{groups, notes, e}
}

func (got answer) is(t *testing.T, what string, want answer) {
	t.Helper()
	if got.e != want.e || !likeGroups(got.groups, want.groups) || !slices.EqualFunc(got.notes, want.notes, likeNote) {
		t.Errorf("%s: %s, not %s", what, show(got), show(want))
	}
}

// minute are hours of all days, of one minute.
func minute(name string, at int) api.Hours {
	return api.Hours{Name: name, Days: 127, From: at, To: at + 1}
}

// of is a configuration of a route, with all receivers and hours that these tests name.
func of(r api.Route, h ...api.Hours) api.Config {
	return api.Config{Route: r, Hours: h, Receivers: []string{"top", "a", "b", "c", "d", "e", "f", "g", "x", "y"}}
}

// due is a group of a path that is due at a time, with members of the label n: those of what ends, too.
func due(next int, path string, fires, ended, told []string) api.Group {
	x := api.Group{Path: path, Next: next, Told: texts(told...)}
	for i, value := range slices.Sorted(slices.Values(slices.Concat(fires, ended))) {
		x.Members = append(x.Members, firing(path, value).Members...)
		x.Members[i].Ends = slices.Contains(ended, value)
	}
	return x
}

func some(l ...string) []string { return l }

// P15.2: what may not be, in order, ahead of what was told later.
func TestFlushErrors(t *testing.T) {
	c := of(tree())
	later := api.Group{Told: texts("1"), At: 9}
	for k, g := range [][]api.Group{nil, {firing("", "1")}, many("", 0, 32), {later}, {firing("", "1"), with(later, func(x *api.Group) { x.Path = ".0" })}} {
		for _, now := range []int{math.MinInt, -most, -1, most + 1, 2 * most, math.MaxInt} {
			flush(t, c, g, nil, now).is(t, fmt.Sprint("groups ", k, " at ", now), answer{e: api.ErrArg})
		}
		for i, wrong := range []api.Config{
			{},
			{Route: tree()},
			with(c, func(c *api.Config) { c.Receivers = c.Receivers[1:] }),
			with(c, func(c *api.Config) { c.Receivers = append(slices.Clone(c.Receivers), "x") }),
			with(c, func(c *api.Config) { c.Rules = []api.Rule{{}} }),
			with(c, func(c *api.Config) { c.Inhibits = []api.Inhibit{{}} }),
			with(c, func(c *api.Config) { c.Hours = []api.Hours{{}} }),
			with(c, func(c *api.Config) { c.Route.On = true }),
			with(c, func(c *api.Config) { c.Route.Match = []api.Matcher{is("a", "1")} }),
			with(c, func(c *api.Config) { c.Route.Mute = []string{"none"} }),
			with(c, func(c *api.Config) { c.Route.Every = 0 }),
			of(plain("top", wide(16, plain("a", plain("b")))...)),
		} {
			flush(t, wrong, g, nil, 9).is(t, fmt.Sprint("groups ", k, ", configuration ", i), answer{e: api.ErrArg})
			flush(t, wrong, g, nil, 0).is(t, fmt.Sprint("groups ", k, ", configuration ", i), answer{e: api.ErrArg})
		}
		for _, x := range []api.Group{{}, firing(".11", "1"), firing(".9", "2", "1"), with(firing(".9", "1"), func(x *api.Group) { x.Next = -1 })} {
			flush(t, c, append(slices.Clone(g), x), nil, 0).is(t, fmt.Sprint("groups ", k, " and ", x), answer{e: api.ErrArg})
		}
	}
	flush(t, of(plain("a")), []api.Group{firing(".0", "1")}, nil, 0).is(t, "another route's", answer{e: api.ErrArg})
	for _, now := range []int{0, most} {
		flush(t, c, nil, some("", "x"), now).is(t, "no groups", answer{})
	}
}

// P15.2: an At above the time is told, whether its group is due or not, and wherever it is.
func TestFlushPast(t *testing.T) {
	for _, at := range []int{0, 1, 2, 9, most - 1, most} {
		for _, next := range []int{0, 5, most} {
			for place := range 4 {
				g := []api.Group{firing("", "1"), firing(".0", "1"), firing(".1", "1"), firing(".2", "1")}
				g[place].At, g[place].Next = at, next
				for _, now := range []int{0, 1, 2, 8, 9, 10, most - 1, most} {
					want := api.OK
					if at > now {
						want = api.ErrPast
					}
					if got := flush(t, of(tree()), g, nil, now); got.e != want {
						t.Errorf("told at %d, place %d, looked at at %d: %d", at, place, now, got.e)
					}
				}
			}
		}
	}
}

// P15.2: a group is looked at from its Next on, and then not ahead of Every.
func TestFlushDue(t *testing.T) {
	for _, every := range []int{1, 10, most - 7, most} {
		r := plain("top")
		r.Every = every
		for _, next := range []int{0, 1, 7, 8, most - 1, most} {
			for _, now := range []int{0, 1, 6, 7, 8, 9, most - 11, most - 1, most} {
				x := due(next, "", some("1"), nil, nil)
				want := answer{groups: []api.Group{x}}
				if now >= next {
					want = answer{
						groups: []api.Group{{Members: x.Members, Next: min(most, now+every), Told: texts("1"), At: now}},
						notes:  []api.Note{{Receiver: "top", Key: "{}", Firing: texts("1"), At: now}},
					}
				}
				flush(t, of(r), []api.Group{x}, nil, now).is(t, fmt.Sprint(every, next, now), want)
			}
		}
	}
}

// P15.2: it is its own route that tells a group's receiver, and when it is told and looked at again, and in which hours it is mute.
func TestFlushRoute(t *testing.T) {
	paths := []string{"", ".0", ".0.0", ".1", ".1.0", ".1.0.0", ".1.0.1", ".10", ".2"}
	receivers := []string{"top", "a", "b", "c", "d", "e", "f", "x", "y"}
	c := of(tree(), minute("first", 0))
	own := map[string]*api.Route{"": &c.Route}
	for _, path := range paths[1:] {
		at := &c.Route
		for _, i := range map[string][]int{".0": {0}, ".0.0": {0, 0}, ".1": {1}, ".1.0": {1, 0}, ".1.0.0": {1, 0, 0}, ".1.0.1": {1, 0, 1}, ".10": {10}, ".2": {2}}[path] {
			at = &at.Routes[i]
		}
		own[path] = at
	}
	for i, path := range paths {
		own[path].Receiver, own[path].Every, own[path].Repeat = receivers[i], 3+i, 50+i
	}
	for i, path := range paths {
		for _, since := range []int{0, 49 + i, 50 + i, 51 + i, 900} {
			x := due(0, path, some("1"), nil, some("1"))
			x.Key, x.At = pairs("k", `"`), 1000-since
			then := x
			then.Next = 1003 + i
			want := answer{groups: []api.Group{then}}
			if since >= 50+i {
				want.groups[0].At = 1000
				want.notes = []api.Note{{Receiver: receivers[i], Path: path, Key: `{k="\""}`, Firing: texts("1"), At: 1000}}
			}
			flush(t, c, []api.Group{x}, nil, 1000).is(t, fmt.Sprint(path, " since ", since), want)
		}
		for _, muted := range paths {
			own[muted].Mute = some("first")
			got := flush(t, c, []api.Group{due(0, path, some("1"), nil, nil)}, nil, 1000)
			if muted == path != (len(got.notes) == 0) || got.groups[0].Next != 1003+i {
				t.Errorf("%q is muted by %q: %s", path, muted, show(got))
			}
			own[muted].Mute = nil
		}
	}
}

// P15.2: in which hours a group is muted: those that its route names, and as long as one of them is.
func TestFlushMute(t *testing.T) {
	hours := []api.Hours{minute("c", 2), minute("a", 1), minute("d", 3), {Name: "b", Days: 1, From: 1, To: 4}}
	for _, c := range []struct {
		names  []string
		muted  string // minute by minute, from 0 on, of a Monday
		behind string // and of a Tuesday
	}{
		{nil, "------", "------"},
		{some("a"), "-m----", "-m----"},
		{some("c"), "--m---", "--m---"},
		{some("a", "c"), "-mm---", "-mm---"},
		{some("a", "d"), "-m-m--", "-m-m--"},
		{some("b"), "-mmm--", "------"},
		{some("b", "d"), "-mmm--", "---m--"},
		{some("a", "b", "c", "d"), "-mmm--", "-mmm--"},
	} {
		r := plain("top")
		r.Mute = c.names
		for i, days := range []string{c.muted, c.behind} {
			for at := range days {
				for _, off := range []int{0, 1, 59999} {
					now := (i*1440+at)*60000 + off
					x := due(now, "", some("1"), some("2", "3"), some("3"))
					then := due(now+10, "", some("1"), some("2", "3"), some("3"))
					want := answer{groups: []api.Group{then}}
					if days[at] == '-' {
						want.groups[0] = due(now+10, "", some("1"), nil, some("1"))
						want.groups[0].At = now
						want.notes = []api.Note{{Receiver: "top", Key: "{}", Firing: texts("1"), Ended: texts("3"), At: now}}
					}
					flush(t, of(r, hours...), []api.Group{x}, nil, now).is(t, fmt.Sprint(c.names, " at ", now), want)
					flush(t, of(r, hours...), []api.Group{with(x, func(x *api.Group) { x.Next++ })}, nil, now).is(t, "not due", answer{groups: []api.Group{with(x, func(x *api.Group) { x.Next++ })}})
				}
			}
		}
	}
	r := plain("top")
	r.Mute = some("all")
	x := due(0, "", nil, some("1"), nil) // muted, it keeps even what ended and was not told
	flush(t, of(r, api.Hours{Name: "all", Days: 127, To: 1440}), []api.Group{x}, nil, 5).is(t, "all is mute", answer{groups: []api.Group{due(15, "", nil, some("1"), nil)}})
}

// trueLook is what a look at a group must come to, by what the document says, of what its route says, and of the texts that are quiet.
func trueLook(x api.Group, r api.Route, muted bool, quiet []string, now int) ([]api.Group, []api.Note) {
	isQuiet, told := map[string]int{}, map[string]int{}
	for _, s := range quiet {
		isQuiet[s] = 1
	}
	for _, s := range x.Told {
		told[s] = 1
	}
	note := api.Note{Receiver: r.Receiver, Path: x.Path, Key: trueText(x.Key), At: now}
	tells := false
	for _, m := range x.Members {
		s := trueText(m.Labels)
		if !m.Ends && isQuiet[s] == 0 {
			note.Firing = append(note.Firing, s)
			if told[s] == 0 || now-x.At >= r.Repeat {
				tells = true
			}
		}
		if m.Ends && told[s] == 1 {
			note.Ended = append(note.Ended, s)
			tells = true
		}
	}
	then := api.Group{Path: x.Path, Key: x.Key, Members: x.Members, Next: now + r.Every, Told: x.Told, At: x.At}
	if then.Next > most {
		then.Next = most
	}
	if muted {
		return []api.Group{then}, nil
	}
	then.Members = nil
	for _, m := range x.Members {
		if !m.Ends || !tells && told[trueText(m.Labels)] == 1 {
			then.Members = append(then.Members, m)
		}
	}
	var notes []api.Note
	if tells {
		then.Told, then.At, notes = note.Firing, now, []api.Note{note}
	}
	if len(then.Members)+len(then.Told) == 0 {
		return nil, notes
	}
	return []api.Group{then}, notes
}

// trueText is a set's text.
func trueText(l []api.Label) string {
	text := ""
	for i, x := range l {
		if i > 0 {
			text += ","
		}
		text += x.Name + "="
		for k, b := range `"` + x.Value + `"` {
			if k > 0 && k <= len(x.Value) && (b == '"' || b == '\\') {
				text += `\`
			}
			text += string(b)
		}
	}
	return "{" + text + "}"
}

// P15.2: looks at groups of two members, each of which is there, ends, was told or is quiet, or not, held against what the document says.
func TestFlushLook(t *testing.T) {
	r := plain("top")
	r.Repeat, r.Mute = 7, some("m")
	told := 0
	for n := range 3 * 3 * 8 * 8 {
		var fires, ended, before, quiet []string
		for i, value := range some("1", "2") {
			switch n / []int{1, 3}[i] % 3 {
			case 1:
				fires = append(fires, value)
			case 2:
				ended = append(ended, value)
			}
		}
		for i, value := range some("1", "2", "3") { // of the third one, there is no member
			if n/9>>i&1 == 1 {
				before = append(before, value)
			}
			if n/72>>i&1 == 1 {
				quiet = append(quiet, value)
			}
		}
		x := due(60000, "", fires, ended, before)
		if isEmpty(x) {
			continue
		}
		for _, at := range []int{0, 59992, 59993, 59994, 60000} {
			x.At = at
			for _, muted := range []bool{false, true} {
				c := of(r, minute("m", 0))
				if muted {
					c.Hours[0] = minute("m", 1)
				}
				g, notes := trueLook(x, r, muted, texts(quiet...), 60000)
				told += len(notes)
				what := fmt.Sprint(x, " quiet are ", quiet, " muted ", muted)
				flush(t, c, []api.Group{x}, texts(quiet...), 60000).is(t, what, answer{g, notes, api.OK})
				slices.Reverse(quiet)
				odd := slices.Concat(some("", "{}", "x"), texts(quiet...), texts(quiet...))
				flush(t, c, []api.Group{x}, odd, 60000).is(t, what, answer{g, notes, api.OK})
			}
		}
	}
	if told < 500 {
		t.Errorf("%d were told", told)
	}
}

// P15.2: looks by hand, one by one.
func TestFlushTells(t *testing.T) {
	note := func(fires, ended []string) []api.Note {
		return []api.Note{{Receiver: "top", Key: "{}", Firing: texts(fires...), Ended: texts(ended...), At: 200}}
	}
	group := func(at int, fires, ended, told []string) []api.Group {
		return []api.Group{with(due(210, "", fires, ended, told), func(x *api.Group) { x.At = at })}
	}
	for _, c := range []struct {
		what                      string
		at                        int
		fires, ended, told, quiet []string
		groups                    []api.Group
		notes                     []api.Note
	}{
		{"what is new", 150, some("1"), nil, nil, nil, group(200, some("1"), nil, some("1")), note(some("1"), nil)},
		{"what is new, among what is not", 150, some("1", "2", "3"), nil, some("1", "3"), nil, group(200, some("1", "2", "3"), nil, some("1", "2", "3")), note(some("1", "2", "3"), nil)},
		{"what is not new", 150, some("1"), nil, some("1"), nil, group(150, some("1"), nil, some("1")), nil},
		{"what is not new, too soon", 101, some("1"), nil, some("1"), nil, group(101, some("1"), nil, some("1")), nil},
		{"what is not new, again", 100, some("1"), nil, some("1"), nil, group(200, some("1"), nil, some("1")), note(some("1"), nil)},
		{"what is quiet", 0, some("1"), nil, nil, some("1"), group(0, some("1"), nil, nil), nil},
		{"what is quiet, and was told", 0, some("1"), nil, some("1"), some("1"), group(0, some("1"), nil, some("1")), nil},
		{"what is quiet, beside what is new", 150, some("1", "2"), nil, some("1"), some("1"), group(200, some("1", "2"), nil, some("2")), note(some("2"), nil)},
		{"what ended", 199, nil, some("1"), some("1"), nil, nil, note(nil, some("1"))},
		{"what ended, and is quiet", 199, nil, some("1"), some("1"), some("1"), nil, note(nil, some("1"))},
		{"what ended, and was not told", 0, nil, some("1"), nil, nil, nil, nil},
		{"what ended, and was not told, beside what fires", 150, some("2"), some("1"), some("2"), nil, group(150, some("2"), nil, some("2")), nil},
		{"what ended, and was not told, beside what did, and was", 150, nil, some("1", "2"), some("2"), nil, nil, note(nil, some("2"))},
		{"what ended, beside what fires", 150, some("1", "3"), some("2"), some("1", "2", "3"), nil, group(200, some("1", "3"), nil, some("1", "3")), note(some("1", "3"), some("2"))},
		{"what ended, beside what is quiet", 150, some("1"), some("2"), some("1", "2"), some("1"), group(200, some("1"), nil, nil), note(nil, some("2"))},
		{"what was told, and is not there", 0, nil, nil, some("1"), nil, group(0, nil, nil, some("1")), nil},
		{"what was told, and is not there, beside what is new", 150, some("2"), nil, some("1"), nil, group(200, some("2"), nil, some("2")), note(some("2"), nil)},
		{"what was told, and is not there, beside what ended", 150, nil, some("2"), some("1", "2"), nil, nil, note(nil, some("2"))},
	} {
		x := with(due(200, "", c.fires, c.ended, c.told), func(x *api.Group) { x.At = c.at })
		flush(t, of(plain("top")), []api.Group{x}, texts(c.quiet...), 200).is(t, c.what, answer{c.groups, c.notes, api.OK})
	}
}

// P15.2: several groups: those that are due, in order, and the others as they are.
func TestFlushGroups(t *testing.T) {
	c := of(tree())
	g := []api.Group{
		due(9, "", some("1"), nil, nil),
		due(10, ".0", some("1"), nil, nil),
		due(8, ".0.0", nil, some("1"), some("1")),
		due(0, ".1", some("2"), nil, nil),
		due(11, ".1.0", nil, some("1"), nil),
		due(5, ".1.0.0", nil, some("1"), nil),
		with(due(9, ".10", some("3"), nil, nil), func(x *api.Group) { x.Key = pairs("a", "1") }),
		with(due(9, ".10", some("3"), nil, some("3")), func(x *api.Group) { x.Key = pairs("a", "2") }),
		due(most, ".2", some("1"), nil, nil),
	}
	then := []api.Group{
		with(due(19, "", some("1"), nil, some("1")), func(x *api.Group) { x.At = 9 }),
		g[1],
		with(due(19, ".1", some("2"), nil, some("2")), func(x *api.Group) { x.At = 9 }),
		g[4],
		with(due(19, ".10", some("3"), nil, some("3")), func(x *api.Group) { x.Key, x.At = pairs("a", "1"), 9 }),
		with(due(19, ".10", some("3"), nil, some("3")), func(x *api.Group) { x.Key = pairs("a", "2") }),
		g[8],
	}
	notes := []api.Note{
		{Receiver: "top", Path: "", Key: "{}", Firing: texts("1"), At: 9},
		{Receiver: "b", Path: ".0.0", Key: "{}", Ended: texts("1"), At: 9},
		{Receiver: "c", Path: ".1", Key: "{}", Firing: texts("2"), At: 9},
		{Receiver: "g", Path: ".10", Key: `{a="1"}`, Firing: texts("3"), At: 9},
	}
	flush(t, c, g, nil, 9).is(t, "some", answer{then, notes, api.OK})
	flush(t, c, then, nil, 9).is(t, "none is due", answer{then, nil, api.OK})
	got := flush(t, c, g, nil, 9)
	got.notes[0].Firing[0] = "x"
	if got.groups[0].Told[0] != `{n="1"}` {
		t.Error("a note and a group share what was told")
	}
	all := flush(t, of(plain("top")), many("", 0, 32), nil, 3)
	if len(all.groups) != 32 || len(all.notes) != 32 {
		t.Error(all)
	}
	for i, n := range all.notes {
		if n.Key != fmt.Sprintf(`{k="%03d"}`, i) || all.groups[i].At != 3 {
			t.Error(n)
		}
	}
	full := flush(t, of(plain("top")), []api.Group{firing("", numbers(0, 64)...)}, texts(numbers(5, 10)...), 3)
	if want := texts(append(numbers(0, 5), numbers(15, 49)...)...); len(full.notes) != 1 || !slices.Equal(full.notes[0].Firing, want) || !slices.Equal(full.groups[0].Told, want) || len(full.groups[0].Members) != 64 {
		t.Error(full)
	}
}

// The document's example: with Wait 5, a change at 0 is told at 5, once.
func TestFlushExample(t *testing.T) {
	c := of(plain("top"))
	g, e := Come(c.Route, nil, on("n", "1"), 0)
	if e != api.OK {
		t.Fatal(e)
	}
	if next, e := Next(g); next != 5 || e != api.OK {
		t.Error(next, e)
	}
	flush(t, c, g, nil, 4).is(t, "at 4", answer{groups: g})
	got := flush(t, c, g, nil, 5)
	got.is(t, "at 5", answer{
		[]api.Group{{Members: g[0].Members, Next: 15, Told: texts("1"), At: 5}},
		[]api.Note{{Receiver: "top", Key: "{}", Firing: texts("1"), At: 5}},
		api.OK,
	})
	g, _ = Come(c.Route, g, on("n", "2"), 4) // two alerts of one group: one note
	if got := flush(t, c, g, nil, 5); len(got.notes) != 1 || !slices.Equal(got.notes[0].Firing, texts("1", "2")) {
		t.Error(got)
	}
}
