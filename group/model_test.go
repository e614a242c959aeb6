package group

import (
	"fmt"
	"math"
	"math/rand"
	"slices"
	"sort"
	"testing"

	"transhipment/api"
	"transhipment/hours"
	"transhipment/matcher"
	"transhipment/routes"
)

// model is groups by what they are sorted by: their path, and their key's text.
type model map[[2]string]api.Group

func (m model) groups() []api.Group {
	var keys [][2]string
	for k := range m {
		keys = append(keys, k)
	}
	sort.Slice(keys, func(i, j int) bool {
		a, b := keys[i], keys[j]
		return a[0] < b[0] || a[0] == b[0] && a[1] < b[1]
	})
	var g []api.Group
	for _, k := range keys {
		g = append(g, m[k])
	}
	return g
}

// trueLeads are the paths, with the routes, that labels lead to.
func trueLeads(path string, r api.Route, l []api.Label) []api.Target {
	var all []api.Target
	for i, inner := range r.Routes {
		if holds, _ := matcher.Holds(l, inner.Match...); holds {
			all = append(all, trueLeads(fmt.Sprintf("%s.%d", path, i), inner, l)...)
			if !inner.On {
				break
			}
		}
	}
	if all == nil {
		return []api.Target{{Path: path, Route: r}}
	}
	return all
}

// come is what a model comes to by a change that may be.
func (m model) come(r api.Route, c api.Change, now int) (model, api.Errno) {
	next := model{}
	for k, x := range m {
		next[k] = x
	}
	for _, target := range trueLeads("", r, c.Labels) {
		var key []api.Label
		for _, x := range c.Labels {
			if slices.Contains(target.Route.By, x.Name) {
				key = append(key, x)
			}
		}
		k := [2]string{target.Path, trueText(key)}
		x, there := next[k]
		if !there {
			x = api.Group{Path: target.Path, Key: key, Next: int(math.Min(float64(now+target.Route.Wait), most))}
		}
		var members []api.Member
		was := false
		for _, one := range x.Members {
			if trueText(one.Labels) == trueText(c.Labels) {
				was = true
				continue
			}
			members = append(members, one)
		}
		if c.Fires || was {
			members = append(members, api.Member{Labels: c.Labels, Ends: !c.Fires})
		}
		sort.Slice(members, func(i, j int) bool { return trueText(members[i].Labels) < trueText(members[j].Labels) })
		x.Members = members
		if there || c.Fires {
			next[k] = x
		}
		if len(next) > 32 || len(members) > 64 {
			return m, api.ErrFull
		}
	}
	return next, api.OK
}

// flush is what a model comes to, and the notes.
func (m model) flush(c api.Config, quiet []string, now int) (model, []api.Note) {
	next := model{}
	own := map[string]api.Route{}
	var enter func(path string, r api.Route)
	enter = func(path string, r api.Route) {
		own[path] = r
		for i, inner := range r.Routes {
			enter(fmt.Sprintf("%s.%d", path, i), inner)
		}
	}
	enter("", c.Route)
	var notes []api.Note
	for _, x := range m.groups() {
		k := [2]string{x.Path, trueText(x.Key)}
		left := []api.Group{x}
		if x.Next <= now {
			muted := false
			for _, h := range c.Hours {
				muted = muted || slices.Contains(own[x.Path].Mute, h.Name) && hours.In(h, now)
			}
			var told []api.Note
			left, told = trueLook(x, own[x.Path], muted, quiet, now)
			notes = append(notes, told...)
		}
		for _, x := range left {
			next[k] = x
		}
	}
	return next, notes
}

// randomRoute is one of few labels, and of short times, at most so deep.
func randomRoute(r *rand.Rand, deep int) api.Route {
	x := api.Route{Receiver: []string{"a", "b", "c"}[r.Intn(3)], Wait: 10000 * r.Intn(5), Every: 10000 * (1 + r.Intn(5)), Repeat: 10000 * (1 + r.Intn(40)), On: r.Intn(2) == 0}
	if r.Intn(3) > 0 {
		x.Match = []api.Matcher{{Name: []string{"a", "b", "c"}[r.Intn(3)], How: 1 + r.Intn(2), Words: []string{[]string{"", "1", "2"}[r.Intn(3)]}}}
	}
	for _, name := range []string{"a", "b", "c", "d"} {
		if r.Intn(4) == 0 {
			x.By = append(x.By, name)
		}
	}
	for _, name := range []string{"h1", "h2", "h3"} {
		if r.Intn(5) == 0 {
			x.Mute = append(x.Mute, name)
		}
	}
	for range r.Intn(4) {
		if deep > 1 {
			x.Routes = append(x.Routes, randomRoute(r, deep-1))
		}
	}
	return x
}

func randomConfig(r *rand.Rand) api.Config {
	c := api.Config{Receivers: []string{"c", "a", "b"}, Route: randomRoute(r, 1+r.Intn(3))}
	c.Route.Match, c.Route.On = nil, false
	c.Hours = []api.Hours{{Name: "h2", Days: 127, From: 3, To: 9}, {Name: "h1", Days: 1, From: 0, To: 5}, {Name: "h3", Days: 127, From: 12, To: 13}}
	return c
}

// randomChange is one of few labels, or of one more that tells many apart.
func randomChange(r *rand.Rand, many int) api.Change {
	c := api.Change{Fires: r.Intn(2) == 0}
	for _, name := range []string{"a", "b", "c"} {
		if v := r.Intn(4); v > 0 {
			c.Labels = append(c.Labels, api.Label{Name: name, Value: fmt.Sprint(v)})
		}
	}
	if n := r.Intn(many); n > 0 {
		c.Labels = append(c.Labels, api.Label{Name: "d", Value: fmt.Sprint(n)})
	}
	return c
}

// randomQuiet are texts of some of groups' members.
func randomQuiet(r *rand.Rand, g []api.Group) []string {
	var quiet []string
	for _, x := range g {
		for _, m := range x.Members {
			if r.Intn(6) == 0 {
				quiet = append(quiet, trueText(m.Labels))
			}
		}
	}
	r.Shuffle(len(quiet), func(i, j int) { quiet[i], quiet[j] = quiet[j], quiet[i] })
	return quiet
}

// P15.1, P15.2: random changes and looks, held against what the document says.
func TestRandom(t *testing.T) {
	random := rand.New(rand.NewSource(1))
	told, full := 0, 0
	for range 150 {
		c, m, now, sets := randomConfig(random), model{}, random.Intn(500000), 1+random.Intn(1+random.Intn(100))
		var g []api.Group
		for range 200 {
			if random.Intn(3) == 0 {
				now += 5000 * random.Intn(10)
			}
			if random.Intn(4) == 0 {
				quiet := randomQuiet(random, g)
				next, notes := m.flush(c, quiet, now)
				got := flush(t, c, g, quiet, now)
				got.is(t, fmt.Sprint("at ", now), answer{next.groups(), notes, api.OK})
				m, g, told = next, got.groups, told+len(notes)
				continue
			}
			change := randomChange(random, sets)
			next, want := m.come(c.Route, change, now)
			got, e := come(t, c.Route, g, change, now)
			if e != want || e == api.OK && !likeGroups(got, next.groups()) {
				t.Fatalf("at %d comes %v: %s, %d, not %s, %d", now, change, show(got), e, show(next.groups()), want)
			}
			if e == api.OK {
				m, g = next, got
			} else {
				full++
			}
			least, e := Next(g)
			if e == api.ErrNone != (len(g) == 0) || slices.ContainsFunc(g, func(x api.Group) bool { return x.Next < least }) {
				t.Fatalf("the next of %s is %d, %d", show(g), least, e)
			}
		}
	}
	if told < 1500 || full < 500 {
		t.Errorf("%d were told, %d were too many", told, full)
	}
}

// history is what came to a group's path and key, from the first change on.
type history struct {
	fires map[string]bool // what came, and has not ended
	last  api.Note
}

// P15.3: groups that may be stay such; what is told as firing came, and has not ended; what is told as ended was told as firing in the note ahead; nothing is told twice within Repeat, unless something is new, or ended.
func TestFollows(t *testing.T) {
	random := rand.New(rand.NewSource(2))
	told, ended, again := 0, 0, 0
	for range 300 {
		c, now, sets := randomConfig(random), 0, 1+random.Intn(2)
		been := map[[2]string]*history{}
		var g []api.Group
		for range 150 {
			now += 5000 * random.Intn(5)
			change := randomChange(random, sets)
			if got, e := come(t, c.Route, g, change, now); e == api.OK && random.Intn(2) == 0 {
				g = got
				cameTo(been, c.Route, change)
			}
			quiet := randomQuiet(random, g)
			got := flush(t, c, g, quiet, now)
			if got.e != api.OK {
				t.Fatal(got)
			}
			g = got.groups
			for _, n := range got.notes {
				h := been[[2]string{n.Path, n.Key}]
				if h == nil || n.At != now || len(n.Firing)+len(n.Ended) == 0 {
					t.Fatalf("%v is told at %d of what did not come", n, now)
				}
				h.may(t, n, routeOf(c.Route, n), quiet)
				told, ended = told+1, ended+len(n.Ended)
				if slices.Equal(n.Firing, h.last.Firing) && len(n.Ended) == 0 {
					again++
				}
				h.last = n
			}
			if next, e := Next(g); e == api.OK && next <= now {
				t.Fatalf("at %d the next look is at %d", now, next)
			}
		}
	}
	if told < 5000 || ended < 1000 || again < 300 {
		t.Errorf("%d notes, %d ended, %d told again", told, ended, again)
	}
}

// routeOf is the route of a note's path, among all to which any labels lead.
func routeOf(r api.Route, n api.Note) api.Route {
	path := n.Path
	for path != "" {
		for i := range r.Routes {
			head := fmt.Sprintf(".%d", i)
			if len(path) >= len(head) && path[:len(head)] == head {
				r, path = r.Routes[i], path[len(head):]
				break
			}
		}
	}
	return r
}

// cameTo has a change come to the histories of what it leads to.
func cameTo(been map[[2]string]*history, r api.Route, c api.Change) {
	targets, _ := routes.Find(r, c.Labels)
	for _, target := range targets {
		var key []api.Label
		for _, x := range c.Labels {
			if slices.Contains(target.Route.By, x.Name) {
				key = append(key, x)
			}
		}
		k := [2]string{target.Path, trueText(key)}
		if been[k] == nil {
			been[k] = &history{fires: map[string]bool{}}
		}
		been[k].fires[trueText(c.Labels)] = c.Fires
	}
}

// may fails, if a note may not be told behind all that came.
func (h *history) may(t *testing.T, n api.Note, r api.Route, quiet []string) {
	t.Helper()
	something := len(n.Ended) > 0
	for _, text := range n.Firing {
		if !h.fires[text] || slices.Contains(quiet, text) {
			t.Fatalf("%q is told as firing, and is not, or is quiet", text)
		}
		something = something || !slices.Contains(h.last.Firing, text)
	}
	for _, text := range n.Ended {
		if h.fires[text] || !slices.Contains(h.last.Firing, text) {
			t.Fatalf("%q is told as ended, and did not end, or was not told", text)
		}
	}
	if !something && n.At-h.last.At < r.Repeat {
		t.Fatalf("%v is told within %d of %v", n, r.Repeat, h.last)
	}
	if n.Receiver != r.Receiver || !slices.IsSorted(n.Firing) || !slices.IsSorted(n.Ended) {
		t.Fatalf("%v is of another receiver, or in no order", n)
	}
}

// P1: whatever is handed in, every call ends, and answers nothing beside an error.
func TestAnything(t *testing.T) {
	random := rand.New(rand.NewSource(3))
	numbers := []int{math.MinInt, -most, -1, 0, 1, 2, 9, most - 1, most, most + 1, math.MaxInt}
	usual := func(n int) int {
		if random.Intn(25) == 0 {
			return numbers[random.Intn(len(numbers))]
		}
		return n
	}
	word := func(usual ...string) string {
		if random.Intn(25) == 0 {
			return []string{"", "a", "A", "\xff", "{}", ".0", long(65)}[random.Intn(7)]
		}
		return usual[random.Intn(len(usual))]
	}
	told := map[api.Errno]int{}
	for range 100000 {
		r := api.Route{Receiver: word("a"), Every: usual(1), Repeat: usual(1), Wait: usual(0)}
		if random.Intn(2) == 0 {
			r.Routes = []api.Route{{Receiver: word("a"), Every: usual(1), Repeat: usual(1), On: random.Intn(2) == 0}}
			r.By = []string{word("a")}
		}
		var g []api.Group
		for range random.Intn(3) {
			x := api.Group{Path: word("", "", ".0"), Next: usual(0), At: usual(random.Intn(2))}
			if random.Intn(2) == 0 {
				x.Key = pairs(word("a", "b"), word("1"))
			}
			for range random.Intn(3) {
				x.Members = append(x.Members, api.Member{Labels: pairs(word("a", "b"), word("1")), Ends: random.Intn(2) == 0})
			}
			for range random.Intn(2) {
				x.Told = append(x.Told, word("{}", `{a="1"}`))
			}
			g = append(g, x)
		}
		change := api.Change{Labels: pairs(word("a", "b"), word("1", "2")), Fires: random.Intn(2) == 0}
		c := api.Config{Route: r, Receivers: []string{word("a")}}
		now := usual(1)
		_, e := come(t, r, g, change, now)
		told[e]++
		told[flush(t, c, g, []string{word("{}")}, now).e]++
		if Right(r, g) && now == 1 && e == api.OK {
			told[-1]++
		}
		Next(g)
	}
	if told[-1] < 10000 || told[api.OK] < 20000 || told[api.ErrArg] < 20000 || told[api.ErrPast] < 100 {
		t.Errorf("of errors were told %v", told)
	}
}
