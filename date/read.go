package date

import (
	"strings"

	"broadsheet/api"
)

// reader takes a date off the front of a text. That something isn't as it must
// be is kept in bad and asked for at the end, so that a form can be read
// straight on.
type reader struct {
	left string
	bad  bool
}

// answer is what Atom and Mail say of a moment that was read to its end.
func (r *reader) answer(m moment) (int, api.Errno) {
	r.need(r.left == "")
	r.need(m.year >= firstYear)
	r.need(m.day <= daysOf(m.year, m.month))
	if r.bad {
		return 0, api.ErrDate
	}
	return m.time(), api.OK
}

func (r *reader) atomMoment() moment {
	var m moment
	m.year, _ = r.digits(4, 4)
	r.oneOf("-")
	m.month = r.two(1, 12)
	r.oneOf("-")
	m.day = r.two(1, 31)
	r.oneOf("T", "t", " ")
	m.hour = r.two(0, 23)
	r.oneOf(":")
	m.minute = r.two(0, 59)
	r.oneOf(":")
	m.second = r.two(0, 60)
	r.skipFraction()
	if !r.has("Z", "z") {
		m.ahead = r.offset(":")
	}
	return m
}

func (r *reader) mailMoment() moment {
	var m moment
	if r.has(weekdays()...) {
		r.oneOf(", ")
	}
	m.day, _ = r.digits(1, 2)
	r.need(m.day >= 1)
	r.oneOf(" ")
	m.month = r.oneOf(months()...) + 1
	r.oneOf(" ")
	m.year = r.mailYear()
	r.oneOf(" ")
	m.hour = r.two(0, 23)
	r.oneOf(":")
	m.minute = r.two(0, 59)
	if r.has(":") {
		m.second = r.two(0, 60)
	}
	r.oneOf(" ")
	m.ahead = r.mailZone()
	return m
}

func (r *reader) mailYear() int {
	year, width := r.digits(2, 4)
	switch {
	case width == 3:
		r.bad = true
	case width == 2 && year < 50:
		year += 2000
	case width == 2:
		year += 1900
	}
	return year
}

// mailZone answers by how many seconds a zone is ahead.
func (r *reader) mailZone() int {
	behind := 0
	switch {
	case r.has("GMT", "UT", "Z"):
	case r.has("EDT"):
		behind = 4
	case r.has("EST", "CDT"):
		behind = 5
	case r.has("CST", "MDT"):
		behind = 6
	case r.has("MST", "PDT"):
		behind = 7
	case r.has("PST"):
		behind = 8
	default:
		return r.offset("")
	}
	return -behind * secondsOfHour
}

// offset takes + or -, hours and minutes, with the given text between the two,
// and answers them as seconds.
func (r *reader) offset(between string) int {
	sign := 1
	if r.oneOf("+", "-") == 1 {
		sign = -1
	}
	hours := r.two(0, 23)
	r.oneOf(between)
	minutes := r.two(0, 59)
	return sign * (hours*secondsOfHour + minutes*secondsOfMinute)
}

// skipFraction takes a full stop and its digits, which may be too many for a number.
func (r *reader) skipFraction() {
	if !r.has(".") {
		return
	}
	behind := strings.TrimLeft(r.left, "0123456789")
	r.need(len(behind) < len(r.left))
	r.left = behind
}

// two takes two digits of a number from low to high.
func (r *reader) two(low, high int) int {
	n, _ := r.digits(2, 2)
	r.need(n >= low && n <= high)
	return n
}

// digits takes as many digits as come next, but at most that many, and answers
// their number and how many there were.
func (r *reader) digits(least, most int) (number, width int) {
	for width < most && width < len(r.left) && isDigit(r.left[width]) {
		number = 10*number + int(r.left[width]-'0')
		width++
	}
	r.left = r.left[width:]
	r.need(width >= least)
	return number, width
}

// oneOf takes the one of several words that comes next and answers its place
// among them; there must be one.
func (r *reader) oneOf(words ...string) int {
	i := r.take(words...)
	r.need(i >= 0)
	return i
}

// has takes the one of several words that comes next, if one does.
func (r *reader) has(words ...string) bool {
	return r.take(words...) >= 0
}

// take answers the place of the word that came next, or -1. No word that the
// forms have begins with another that may stand in its place, so the first
// that fits is the right one.
func (r *reader) take(words ...string) int {
	for i, word := range words {
		if behind, ok := strings.CutPrefix(r.left, word); ok {
			r.left = behind
			return i
		}
	}
	return -1
}

func (r *reader) need(holds bool) {
	if !holds {
		r.bad = true
	}
}

func isDigit(c byte) bool {
	return c >= '0' && c <= '9'
}
