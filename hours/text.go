package hours

import (
	"strconv"
	"strings"

	"transhipment/api"
)

// The days, by the numbers of their bits, and how many there are.
const (
	monday = iota
	tuesday
	wednesday
	thursday
	friday
	saturday
	sunday
	daysOfWeek
)

// dayNames are the days, as they are written.
var dayNames = [daysOfWeek]string{
	monday:    "mon",
	tuesday:   "tue",
	wednesday: "wed",
	thursday:  "thu",
	friday:    "fri",
	saturday:  "sat",
	sunday:    "sun",
}

// readName is the name of hours that are read, for a text has none.
const readName = "x"

// Text is the text of hours, without the name.
func Text(h api.Hours) (string, api.Errno) {
	if !Right(h) {
		return "", api.ErrArg
	}
	var days []string
	for day, name := range dayNames {
		if hasDay(h, day) {
			days = append(days, name)
		}
	}
	return strings.Join(days, ",") + " " + clock(h.From) + "-" + clock(h.To), api.OK
}

// clock is how a minute of the day is written.
func clock(minute int) string { return twoDigits(minute/60) + ":" + twoDigits(minute%60) }

func twoDigits(n int) string { return string([]byte{'0' + byte(n/10), '0' + byte(n%10)}) }

// Parse is the hours of a text. What reads its parts need not be strict: hours that have another text are refused.
func Parse(s string) (api.Hours, api.Errno) {
	days, span, _ := strings.Cut(s, " ")
	from, to, _ := strings.Cut(span, "-")
	h := api.Hours{Name: readName, Days: daysIn(days), From: minuteOf(from), To: minuteOf(to)}
	if text, e := Text(h); e != api.OK || text != s {
		return api.Hours{}, api.ErrSyntax
	}
	return h, api.OK
}

// daysIn is the bits of the days whose names are in a text.
func daysIn(text string) int {
	days := 0
	for day, name := range dayNames {
		if strings.Contains(text, name) {
			days |= 1 << day
		}
	}
	return days
}

// minuteOf is the minute of the day that a text tells; -1, which may not be, if it tells none.
func minuteOf(text string) int {
	before, behind, _ := strings.Cut(text, ":")
	hour, wrongHour := strconv.Atoi(before)
	minute, wrongMinute := strconv.Atoi(behind)
	if wrongHour != nil || wrongMinute != nil {
		return -1
	}
	return hour*60 + minute
}
