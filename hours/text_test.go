package hours

import (
	"fmt"
	"math/rand"
	"regexp"
	"slices"
	"strconv"
	"strings"
	"testing"

	"transhipment/api"
)

var (
	allDays = []string{"mon", "tue", "wed", "thu", "fri", "sat", "sun"}
	textIs  = regexp.MustCompile(`^((?:mon|tue|wed|thu|fri|sat|sun)(?:,(?:mon|tue|wed|thu|fri|sat|sun))*) ([01][0-9]|2[0-3]):([0-5][0-9])-([01][0-9]|2[0-4]):([0-5][0-9])\z`)
)

// trueText is the text of hours that may be, found in another way.
func trueText(h api.Hours) string {
	days := ""
	for i, bits := 0, h.Days; bits > 0; i, bits = i+1, bits/2 {
		if bits%2 == 1 {
			days += "," + allDays[i]
		}
	}
	return fmt.Sprintf("%s %02d:%02d-%02d:%02d", days[1:], h.From/60, h.From%60, h.To/60, h.To%60)
}

// number is the number of digits; the tests hand it none that isn't.
func number(s string) int {
	n, err := strconv.Atoi(s)
	if err != nil {
		panic(err)
	}
	return n
}

// trueParse is the hours of a text, found in another way; none, if it is that of none.
func trueParse(s string) api.Hours {
	said := textIs.FindStringSubmatch(s)
	if said == nil {
		return api.Hours{}
	}
	h, last := api.Hours{Name: "x"}, -1
	for _, name := range strings.Split(said[1], ",") {
		day := slices.Index(allDays, name)
		if day <= last {
			return api.Hours{}
		}
		h.Days, last = h.Days+1<<day, day
	}
	h.From, h.To = number(said[2])*60+number(said[3]), number(said[4])*60+number(said[5])
	if h.From >= h.To || h.To > 1440 {
		return api.Hours{}
	}
	return h
}

// parsed fails, if a text is not read as it should be, or not written again; it tells whether it is that of hours.
func parsed(t *testing.T, s string) bool {
	t.Helper()
	got, e := Parse(s)
	want := trueParse(s)
	if want.Days == 0 {
		if got != (api.Hours{}) || e != api.ErrSyntax {
			t.Fatalf("%.200q is read as %v, %d", s, got, e)
		}
		return false
	}
	if got != want || e != api.OK || !Right(got) {
		t.Fatalf("%q is read as %v, %d, not %v", s, got, e, want)
	}
	if again, e := Text(got); again != s || e != api.OK {
		t.Fatalf("%q is written again as %q, %d", s, again, e)
	}
	return true
}

// written fails, if hours have not the text that they should have, or it is not read as they are, but for the name.
func written(t *testing.T, h api.Hours, want string) {
	t.Helper()
	for _, name := range []string{"x", "a", "work_hours", strings.Repeat("0", 64)} {
		h.Name = name
		if s, e := Text(h); s != want || e != api.OK {
			t.Fatalf("the text of %v is %q, %d, not %q", h, s, e, want)
		}
	}
	h.Name = "x"
	if got, e := Parse(want); got != h || e != api.OK {
		t.Fatalf("%q is read as %v, %d, not %v", want, got, e, h)
	}
	if !parsed(t, want) {
		t.Fatalf("%q is none", want)
	}
}

// P7.1, P7.3: hours and their texts, either way.
func TestTextAndParse(t *testing.T) {
	for want, h := range map[string]api.Hours{
		"mon,fri 09:00-17:30":                     span(17, 540, 1050),
		"mon 00:00-00:01":                         span(1, 0, 1),
		"tue 00:00-24:00":                         span(2, 0, 1440),
		"wed 23:59-24:00":                         span(4, 1439, 1440),
		"thu 00:59-01:00":                         span(8, 59, 60),
		"fri 01:00-23:59":                         span(16, 60, 1439),
		"sat 09:09-10:10":                         span(32, 549, 610),
		"sun 12:34-19:56":                         span(64, 754, 1196),
		"sat,sun 10:00-10:01":                     span(96, 600, 601),
		"mon,sun 00:10-20:00":                     span(65, 10, 1200),
		"tue,thu,sat 08:00-18:00":                 span(42, 480, 1080),
		"mon,tue,wed,thu,fri 09:00-17:00":         span(31, 540, 1020),
		"mon,tue,wed,thu,fri,sat,sun 00:00-24:00": span(127, 0, 1440),
	} {
		written(t, h, want)
	}
	for _, h := range some() {
		written(t, h, trueText(h))
	}
}

// P7.1, P7.3: each beginning with some ends, and each end with some beginnings.
func TestTextMinutes(t *testing.T) {
	for from := range 1440 {
		for _, to := range []int{from + 1, (from + 1441) / 2, 1440} {
			h := span(1+from%127, from, to)
			written(t, h, trueText(h))
		}
	}
	for to := 1; to <= 1440; to++ {
		for _, from := range []int{0, to / 2, to - 1} {
			h := span(1+to%127, from, to)
			written(t, h, trueText(h))
		}
	}
}

// P7.1: texts of no hours.
func TestParseWrong(t *testing.T) {
	for _, s := range []string{
		"", " ", "-", ":", ",", "x", "mon", "mon ", "mon,fri", " 09:00-17:30", "09:00-17:30", "mon 09:00", "mon 09:00-", "mon -17:30", "mon 09:00-17", "mon :-:", "mon -", "mon 0-1",
		"mon09:00-17:30", "mon  09:00-17:30", " mon 09:00-17:30", "mon 09:00-17:30 ", "mon 09:00 -17:30", "mon 09:00- 17:30", "mon\t09:00-17:30", "mon 09:00-17:30\n", "mon 09:00-17:30\x00", "\ufeffmon 09:00-17:30",
		"mon,mon 09:00-17:30", "fri,mon 09:00-17:30", "mon,fri,tue 09:00-17:30", "mon,fri,fri 09:00-17:30", "sun,mon 00:00-01:00", "mon,tue,mon 00:00-01:00",
		"mon, fri 09:00-17:30", "mon ,fri 09:00-17:30", "mon,,fri 09:00-17:30", ",mon 09:00-17:30", "mon, 09:00-17:30", ", 09:00-17:30", "monfri 09:00-17:30", "mon-fri 09:00-17:30", "mon;fri 09:00-17:30", "mon fri 09:00-17:30",
		"Mon 09:00-17:30", "MON 09:00-17:30", "mo 09:00-17:30", "monday 09:00-17:30", "xon 09:00-17:30", "mtu 09:00-17:30", "montue 09:00-17:30", "sunmon 00:00-01:00", "x mon 09:00-17:30", "x,mon 09:00-17:30", "mon,x 09:00-17:30",
		"mon 9:00-17:30", "mon 09:0-17:30", "mon 009:00-17:30", "mon 09:000-17:30", "mon 0900-1730", "mon 09.00-17.30", "mon 09:00:00-17:30", "mon 09:00-17:30:00", "mon 09:00-17:30-18:00", "mon 09:00-17:30,18:00-19:00", "mon 09:00--17:30", "mon 09:00_17:30",
		"mon 09:60-17:30", "mon 09:00-17:60", "mon 08:99-17:30", "mon 09:00-16:90", "mon 24:00-24:01", "mon 24:00-24:00", "mon 23:00-24:01", "mon 23:00-24:30", "mon 23:00-25:00", "mon 00:00-23:60", "mon 00:00-99:99", "mon 23:60-24:00",
		"mon 17:30-09:00", "mon 09:00-09:00", "mon 00:00-00:00", "mon 23:59-00:00", "mon 24:00-00:00", "mon 00:01-00:00",
		"mon -9:00-17:30", "mon +9:00-17:30", "mon 09:+0-17:30", "mon 09:00-+7:30", "mon 09:00-17:-0", "mon -0:00-01:00", "mon 0x:00-17:30", "mon 0_:00-17:30", "mon 09:00-1_:30", "mon ٠٩:00-17:30", "mon 09:0a-17:30", "mon 09:00-17:3o", "mon 0/:00-17:30", "mon 0::00-17:30",
		"mon 99999999999999999999:00-17:30", "mon 09:00-99999999999999999999:00", "mon 153722867280912930:16-17:30", "mon 00:9223372036854775807-17:30", "mon -1:60-01:00", "mon 00:00--1:1500", "mon 00:-1-00:01",
	} {
		if got, e := Parse(s); got != (api.Hours{}) || e != api.ErrSyntax {
			t.Errorf("%q is read as %v, %d", s, got, e)
		}
		parsed(t, s)
	}
}

// P7.1, P1: long texts are refused, too.
func TestParseLong(t *testing.T) {
	const many = 1 << 20
	for _, s := range []string{
		strings.Repeat("mon,", many) + "tue 09:00-17:30",
		strings.Repeat("mon ", many),
		"mon 09:00-17:30" + strings.Repeat(" ", many),
		"mon " + strings.Repeat("0", many) + "09:00-17:30",
		"mon 09:00-" + strings.Repeat("9", many) + ":00",
		strings.Repeat(" ", many), strings.Repeat("-", many), strings.Repeat(":", many), strings.Repeat(",", many), strings.Repeat("\xff", many),
	} {
		parsed(t, s)
	}
}

// P7.1, P7.3: texts with a byte changed, taken out or put in, wherever it is.
func TestParseChanged(t *testing.T) {
	same := 0
	for _, s := range []string{"mon,fri 09:00-17:30", "sun 00:00-24:00", "tue,wed,thu 19:59-20:00", "mon,tue,wed,thu,fri,sat,sun 23:58-23:59"} {
		for i := range len(s) + 1 {
			for b := range 256 {
				one := string([]byte{byte(b)})
				parsed(t, s[:i]+one+s[i:])
				if i < len(s) && parsed(t, s[:i]+one+s[i+1:]) {
					same++
				}
			}
			parsed(t, s[:i])
			parsed(t, s[i:])
			if i < len(s) {
				parsed(t, s[:i]+s[i+1:])
			}
			for k := range i {
				parsed(t, s[:k]+s[i:]+s[k:i])
			}
		}
	}
	if same < 100 {
		t.Errorf("%d are those of hours", same)
	}
}

// P7.1: all that may be said in four digits on either side.
func TestParseDigits(t *testing.T) {
	for n := range 10000 {
		clock := fmt.Sprintf("%02d:%02d", n/100, n%100)
		for _, other := range []string{"00:00", "00:01", "12:30", "23:59", "24:00"} {
			parsed(t, "mon "+clock+"-"+other)
			parsed(t, "mon "+other+"-"+clock)
		}
	}
}

// P7.1, P7.3: rows of days in any order, and texts of random pieces.
func TestParseRandom(t *testing.T) {
	r := rand.New(rand.NewSource(17))
	pieces := append([]string{",", " ", "-", ":", "00:00", "09:00", "17:30", "24:00", "23:59", "0", "9", "x", "\n"}, allDays...)
	of := 0
	for range 100000 {
		var days []string
		for range r.Intn(4) {
			days = append(days, allDays[r.Intn(7)])
		}
		if parsed(t, strings.Join(days, ",")+" 09:00-17:30") {
			of++
		}
		s := ""
		for range r.Intn(8) {
			s += pieces[r.Intn(len(pieces))]
		}
		parsed(t, s)
		h := randomHours(r)
		written(t, h, trueText(h))
	}
	if of < 1000 {
		t.Errorf("%d are those of hours", of)
	}
}
