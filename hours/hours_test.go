package hours

import (
	"math"
	"math/rand"
	"strings"
	"testing"

	"transhipment/api"
)

const (
	nameBytes = "abcdefghijklmnopqrstuvwxyz0123456789_"
	minute    = 60000
	day       = 1440 * minute
	week      = 7 * day
	lastTick  = 1099511627776
)

// span is hours of days, from a minute of the day on to another one.
func span(days, from, to int) api.Hours {
	return api.Hours{Name: "x", Days: days, From: from, To: to}
}

// some are hours that may be, of many days, beginnings and ends.
func some() []api.Hours {
	var l []api.Hours
	for days := 1; days <= 127; days++ {
		for _, c := range [][2]int{{0, 1}, {0, 720}, {0, 1439}, {0, 1440}, {1, 2}, {1, 1440}, {540, 1050}, {719, 720}, {1438, 1439}, {1439, 1440}} {
			l = append(l, span(days, c[0], c[1]))
		}
	}
	return l
}

// wrong are hours that may not be.
func wrong() []api.Hours {
	l := []api.Hours{
		{},
		span(0, 0, 1), span(-1, 0, 1), span(128, 0, 1), span(129, 0, 1), span(255, 0, 1), span(math.MinInt, 0, 1), span(math.MaxInt, 0, 1), span(1<<32|1, 0, 1), span(-127, 0, 1),
		span(1, -1, 1), span(1, -1, 0), span(1, -1440, 1), span(1, math.MinInt, 1), span(1, math.MinInt, math.MaxInt), span(1, math.MinInt, math.MinInt+1),
		span(1, 0, 0), span(1, 1, 1), span(1, 1439, 1439), span(1, 1440, 1440), span(1, 720, 719), span(1, 1439, 0), span(1, 1440, 0),
		span(1, 0, 1441), span(1, 1439, 1441), span(1, 1440, 1441), span(1, 1441, 1442), span(1, 0, 2880), span(1, 0, math.MaxInt), span(1, math.MaxInt, math.MaxInt),
		span(1, 0, -1), span(1, 0, math.MinInt), span(1, math.MaxInt, math.MinInt),
		span(0, 0, 0), span(127, 0, 0), span(128, 0, 1440),
	}
	for _, name := range []string{"", "A", "x ", " x", "x y", "x-y", "x.y", "X", "é", "x\n", "\x00", "\xff", "x,y", strings.Repeat("n", 65), strings.Repeat("n", 10000), strings.Repeat("n", 63) + "N", strings.Repeat("n", 63) + "é"} {
		h := span(127, 0, 720)
		h.Name = name
		l = append(l, h)
	}
	return l
}

// within is, minute by minute, which minutes of a week are within hours that may be, found in another way.
func within(h api.Hours) []bool {
	var l []bool
	for day := range 7 {
		for minute := range 1440 {
			l = append(l, h.Days/(1<<day)%2 == 1 && h.From <= minute && minute < h.To)
		}
	}
	return l
}

// trueIn tells whether a tick is within what is so, minute by minute.
func trueIn(minutes []bool, tick int) bool { return minutes[tick/minute%len(minutes)] }

// trueNext is the next tick at which what is so, minute by minute, is other than ahead of it; 0, if there is none.
func trueNext(minutes []bool, tick int) int {
	for at := (tick/minute + 1) * minute; at <= tick+week && at <= lastTick; at += minute {
		if trueIn(minutes, at) != trueIn(minutes, at-1) {
			return at
		}
	}
	return 0
}

// edges are ticks about those at which hours begin and end, about days' and weeks' ends, and the last ones.
func edges(h api.Hours) []int {
	var l []int
	for _, first := range []int{0, week, 1000 * week, lastTick / week * week} {
		for d := range 8 {
			for _, at := range []int{0, h.From, h.To, (h.From + h.To) / 2, 1439} {
				for _, off := range []int{-1, 0, 1, 59999, 60000, 60001} {
					if tick := first + d*day + at*minute + off; tick >= 0 && tick <= lastTick {
						l = append(l, tick)
					}
				}
			}
		}
	}
	return append(l, lastTick-1, lastTick)
}

// P7.1: hours that may be.
func TestRight(t *testing.T) {
	for _, h := range some() {
		if !Right(h) {
			t.Errorf("%v may not be", h)
		}
	}
	for days := -300; days < 300; days++ {
		if got := Right(span(days, 0, 1)); got != (days >= 1 && days <= 127) {
			t.Errorf("days %d may be: %v", days, got)
		}
	}
	for _, from := range []int{-2, -1, 0, 1, 2, 719, 720, 1438, 1439, 1440, 1441, 1442} {
		for to := -3; to < 1500; to++ {
			if got := Right(span(5, from, to)); got != (from >= 0 && from <= 1439 && to > from && to <= 1440) {
				t.Errorf("from %d to %d may be: %v", from, to, got)
			}
		}
	}
}

// P7.1: names that may be, each byte of them, and how long.
func TestRightName(t *testing.T) {
	named := func(name string) bool { return Right(api.Hours{Name: name, Days: 1, From: 0, To: 1}) }
	for b := range 256 {
		one := string([]byte{byte(b)})
		for _, name := range []string{one, one + "x", "x" + one, "x" + one + "x"} {
			if got := named(name); got != strings.Contains(nameBytes, one) {
				t.Errorf("%q may be: %v", name, got)
			}
		}
	}
	for many := range 200 {
		if got := named(strings.Repeat("n", many)); got != (many >= 1 && many <= 64) {
			t.Errorf("a name of %d bytes may be: %v", many, got)
		}
	}
	for _, name := range []string{"x", "_", "0", "9a", "work_hours", "mon", nameBytes} {
		if !named(name) {
			t.Errorf("%q may not be", name)
		}
	}
}

// P7.1, P7.2, P1: hours that may not be: none is within them, they have no text, and no next tick, whatever the tick is.
func TestWrongHours(t *testing.T) {
	for _, h := range wrong() {
		if Right(h) {
			t.Errorf("%.200v may be", h)
		}
		if s, e := Text(h); s != "" || e != api.ErrArg {
			t.Errorf("the text of %.200v is %q, %d", h, s, e)
		}
		for _, tick := range []int{0, 1, minute, 720 * minute, day, week, lastTick, -1, lastTick + 1, math.MinInt, math.MaxInt} {
			if In(h, tick) {
				t.Errorf("%d is within %.200v", tick, h)
			}
			if at, e := Next(h, tick); at != 0 || e != api.ErrArg {
				t.Errorf("next to %d of %.200v: %d, %d", tick, h, at, e)
			}
		}
	}
}

// P7.1, P7.2, P1: what is no tick is within nothing, and has no next one.
func TestWrongTicks(t *testing.T) {
	for _, h := range some() {
		for _, tick := range []int{-1, -2, -minute, -day, -week, 1 - week, -lastTick, math.MinInt, lastTick + 1, lastTick + minute, lastTick + week, 2 * lastTick, math.MaxInt} {
			if In(h, tick) {
				t.Errorf("%d is within %v", tick, h)
			}
			if at, e := Next(h, tick); at != 0 || e != api.ErrArg {
				t.Errorf("next to %d of %v: %d, %d", tick, h, at, e)
			}
		}
	}
}

// P7.1: which ticks are within.
func TestIn(t *testing.T) {
	work := span(17, 540, 1050)
	for _, c := range []struct {
		h    api.Hours
		tick int
		want bool
	}{
		{work, 0, false},
		{work, 540*minute - 1, false},
		{work, 540 * minute, true},
		{work, 1050*minute - 1, true},
		{work, 1050 * minute, false},
		{work, day + 600*minute, false},
		{work, 3*day + 600*minute, false},
		{work, 4*day + 600*minute, true},
		{work, 5*day + 600*minute, false},
		{work, 7*day + 600*minute, true},
		{work, 8*day + 600*minute, false},
		{work, 11*day + 540*minute, true},
		{span(1, 0, 1), 0, true},
		{span(1, 0, 1), 59999, true},
		{span(1, 0, 1), 60000, false},
		{span(2, 0, 1440), day - 1, false},
		{span(2, 0, 1440), day, true},
		{span(2, 0, 1440), 2*day - 1, true},
		{span(2, 0, 1440), 2 * day, false},
		{span(64, 1439, 1440), week - 1, true},
		{span(64, 1439, 1440), week - minute, true},
		{span(64, 1439, 1440), week - minute - 1, false},
		{span(64, 1439, 1440), week, false},
		{span(127, 0, 1440), 0, true},
		{span(127, 0, 1440), lastTick, true},
		{span(64, 1193, 1194), lastTick, true}, // the last tick is in a minute of a Sunday
		{span(64, 1192, 1193), lastTick, false},
		{span(63, 0, 1440), lastTick, false},
	} {
		if got := In(c.h, c.tick); got != c.want {
			t.Errorf("%d is within %v: %v", c.tick, c.h, got)
		}
	}
}

// P7.1, P7.2: each minute of a week, and ticks about edges, are as they are minute by minute.
func TestInAndNext(t *testing.T) {
	for _, h := range some() {
		minutes := within(h)
		for m := range minutes {
			if got := In(h, m*minute); got != minutes[m] {
				t.Fatalf("minute %d of %v: %v", m, h, got)
			}
		}
		if h.Days%11 != 1 && h.Days < 120 { // all of them take long
			continue
		}
		for _, tick := range edges(h) {
			held(t, h, minutes, tick)
		}
	}
}

// held fails, if a tick is not as it should be within hours, or the next one is not.
func held(t *testing.T, h api.Hours, minutes []bool, tick int) {
	t.Helper()
	if got := In(h, tick); got != trueIn(minutes, tick) {
		t.Fatalf("%d is within %v: %v", tick, h, got)
	}
	at, e := Next(h, tick)
	want := trueNext(minutes, tick)
	if want == 0 && (at != 0 || e != api.ErrNone) || want != 0 && (at != want || e != api.OK) {
		t.Fatalf("next to %d of %v: %d, %d, not %d", tick, h, at, e, want)
	}
}

// P7.2: the next tick.
func TestNext(t *testing.T) {
	work := span(17, 540, 1050)
	for _, c := range []struct {
		h          api.Hours
		tick, want int
	}{
		{work, 0, 540 * minute},
		{work, 540*minute - 1, 540 * minute},
		{work, 540 * minute, 1050 * minute},
		{work, 1050*minute - 1, 1050 * minute},
		{work, 1050 * minute, 4*day + 540*minute},
		{work, 4*day + 540*minute, 4*day + 1050*minute},
		{work, 4*day + 1050*minute, week + 540*minute},
		{work, week - 1, week + 540*minute},
		{work, week, week + 540*minute},
		{span(1, 0, 1440), 0, day},
		{span(1, 0, 1440), day - 1, day},
		{span(1, 0, 1440), day, week},
		{span(1, 0, 1440), week - 1, week},
		{span(1, 0, 1440), week, week + day},
		{span(1, 0, 1), 1, minute},
		{span(1, 0, 1), minute, week},
		{span(1, 720, 721), 721 * minute, week + 720*minute},
		{span(3, 0, 1440), 0, 2 * day}, // nothing between a Monday and a Tuesday
		{span(3, 0, 1440), day, 2 * day},
		{span(3, 0, 1440), 2 * day, week},
		{span(65, 0, 1440), 0, day}, // nor between a Sunday and a Monday
		{span(65, 0, 1440), day, 6 * day},
		{span(65, 0, 1440), 6 * day, week + day},
		{span(65, 0, 1440), week, week + day},
		{span(126, 0, 1440), 0, day},
		{span(126, 0, 1440), day, week},
		{span(3, 1, 1440), 1 * minute, day},
		{span(3, 1, 1440), day, day + minute},
		{span(3, 0, 1439), 0, 1439 * minute},
		{span(3, 0, 1439), 1439 * minute, day},
		{span(127, 0, 1439), 1439 * minute, day},
		{span(127, 1, 1440), 0, minute},
		{span(127, 1, 1440), minute, day},
	} {
		if at, e := Next(c.h, c.tick); at != c.want || e != api.OK {
			t.Errorf("next to %d of %v: %d, %d, not %d", c.tick, c.h, at, e, c.want)
		}
	}
}

// P7.2: there is none, if all the week is within, or it would be above the last tick.
func TestNextNone(t *testing.T) {
	for _, tick := range append(edges(span(127, 0, 1440)), 1, day, 123456789) {
		if at, e := Next(span(127, 0, 1440), tick); at != 0 || e != api.ErrNone {
			t.Errorf("next to %d, if all is within: %d, %d", tick, at, e)
		}
	}
	last := lastTick / minute * minute // the minute in which the last tick is: 19:53 of a Sunday
	for _, c := range []struct {
		h          api.Hours
		tick, want int
	}{
		{span(64, 1193, 1194), last - 1, last},
		{span(64, 1193, 1194), last, 0},
		{span(64, 1193, 1194), lastTick, 0},
		{span(64, 1194, 1195), last - 1, 0},
		{span(64, 1194, 1195), last - day, 0},
		{span(64, 1000, 1193), last - 1, last},
		{span(64, 1000, 1193), last, 0},
		{span(64, 1000, 1194), last - 1, 0},
		{span(64, 1000, 1194), last - 195*minute, last - 193*minute},
		{span(1, 0, 1440), lastTick, 0},
		{span(1, 0, 1440), lastTick - 6*day - 1193*minute, lastTick/week*week + day},
		{span(1, 0, 1440), lastTick - 4*day, 0},
		{span(63, 0, 1440), lastTick/week*week + 6*day - 1, lastTick/week*week + 6*day},
		{span(63, 0, 1440), lastTick/week*week + 6*day, 0},
	} {
		at, e := Next(c.h, c.tick)
		if c.want == 0 && (at != 0 || e != api.ErrNone) || c.want != 0 && (at != c.want || e != api.OK) {
			t.Errorf("next to %d of %v: %d, %d, not %d", c.tick, c.h, at, e, c.want)
		}
	}
}

// randomHours are some that may be.
func randomHours(r *rand.Rand) api.Hours {
	from := r.Intn(1440)
	return span(1+r.Intn(127), from, from+1+r.Intn(1440-from))
}

// P7.1, P7.2, P7.3: random ticks of random hours; a week later it is the same, and In stays till the next tick.
func TestRandom(t *testing.T) {
	r := rand.New(rand.NewSource(7))
	for range 3000 {
		h := randomHours(r)
		minutes := within(h)
		for range 10 {
			tick := r.Intn(lastTick - 3*week)
			held(t, h, minutes, tick)
			at, e := Next(h, tick)
			later, e2 := Next(h, tick+week)
			if In(h, tick) != In(h, tick+week) || e != e2 || e == api.OK && at+week != later {
				t.Fatalf("%v: %d, %d behind %d, and %d, %d a week later", h, at, e, tick, later, e2)
			}
			if e == api.OK {
				stays(t, r, h, tick, at)
			}
		}
	}
}

// stays fails, if In does not stay from a tick on to the next one, or does not change there.
func stays(t *testing.T, r *rand.Rand, h api.Hours, tick, at int) {
	t.Helper()
	if at <= tick || at > tick+week || In(h, at) == In(h, at-1) || In(h, at-1) != In(h, tick) {
		t.Fatalf("%v: %d behind %d", h, at, tick)
	}
	for range 20 {
		if between := tick + r.Intn(at-tick); In(h, between) != In(h, tick) {
			t.Fatalf("%v: %d behind %d, but %d is other", h, at, tick, between)
		}
	}
}

// P7.2, P7.3: next by next, all of a week is gone through as it is minute by minute.
func TestWeekThrough(t *testing.T) {
	for _, h := range some() {
		changes := 0
		for m, minutes := 1, within(h); m <= len(minutes); m++ {
			if minutes[m%len(minutes)] != minutes[m-1] {
				changes++
			}
		}
		tick, got := 0, 0
		for got <= changes {
			at, e := Next(h, tick)
			if e != api.OK || at > week {
				break
			}
			tick, got = at, got+1
		}
		if got != changes {
			t.Errorf("%v changes %d times, not %d", h, got, changes)
		}
	}
}

// R1: calls answer the same again, whatever was asked between.
func TestAgain(t *testing.T) {
	for range 2 {
		for _, h := range wrong() {
			Right(h)
			Text(h)
			Next(h, -1)
			Parse(h.Name)
		}
		h := span(17, 540, 1050)
		s, e := Text(h)
		at, e2 := Next(h, 0)
		read, e3 := Parse(s)
		if s != "mon,fri 09:00-17:30" || at != 540*minute || read != h || e != api.OK || e2 != api.OK || e3 != api.OK || !In(h, at) {
			t.Errorf("%q, %d, %v, %d, %d, %d", s, at, read, e, e2, e3)
		}
	}
}
