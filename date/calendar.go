package date

const (
	secondsOfMinute = 60
	secondsOfHour   = 60 * secondsOfMinute
	secondsOfDay    = 24 * secondsOfHour

	firstYear = 1
	lastYear  = 9999

	// daysTo1970 is how many days the years 1 to 1969 have. Days are counted
	// from the beginning of the year 1, so that none that is printed is
	// negative and a division rounds as the calendar wants it.
	daysTo1970 = 719162

	firstTime = -daysTo1970 * secondsOfDay
	lastTime  = 253402300799
)

// moment is a date and a time of day, as a clock shows them that is ahead of
// Greenwich by so many seconds.
type moment struct {
	year, month, day     int
	hour, minute, second int
	ahead                int
}

func (m moment) time() int {
	days := daysTo(m.year, m.month, m.day) - daysTo1970
	clock := m.hour*secondsOfHour + m.minute*secondsOfMinute + min(m.second, 59)
	return days*secondsOfDay + clock - m.ahead
}

// momentOf answers the nearest moment that has a year from 1 to 9999.
func momentOf(t int) moment {
	seconds := min(max(t, firstTime), lastTime) - firstTime
	year, month, day := calendar(seconds / secondsOfDay)
	clock := seconds % secondsOfDay
	return moment{
		year: year, month: month, day: day,
		hour:   clock / secondsOfHour,
		minute: clock % secondsOfHour / secondsOfMinute,
		second: clock % secondsOfMinute,
	}
}

// calendar answers the date behind so many days from the beginning of the year 1.
func calendar(days int) (year, month, day int) {
	// No year is longer than 366 days, so this one is never too late, and
	// until 9999 some twenty years too early at the most.
	year = firstYear + days/366
	for daysTo(year+1, 1, 1) <= days {
		year++
	}
	left := days - daysTo(year, 1, 1)
	month = 1
	for left >= daysOf(year, month) {
		left -= daysOf(year, month)
		month++
	}
	return year, month, left + 1
}

// daysTo answers how many days lie between the beginning of the year 1 and a date.
func daysTo(year, month, day int) int {
	past := year - firstYear
	days := 365*past + past/4 - past/100 + past/400
	for m := 1; m < month; m++ {
		days += daysOf(year, m)
	}
	return days + day - 1
}

// daysOf answers how many days a month has.
func daysOf(year, month int) int {
	switch month {
	case 2:
		if isLeap(year) {
			return 29
		}
		return 28
	case 4, 6, 9, 11:
		return 30
	}
	return 31
}

func isLeap(year int) bool {
	return year%4 == 0 && (year%100 != 0 || year%400 == 0)
}

// weekday counts on from the first day of the year 1, which was a Monday.
func weekday(m moment) string {
	return weekdays()[daysTo(m.year, m.month, m.day)%7]
}

func weekdays() []string {
	return []string{"Mon", "Tue", "Wed", "Thu", "Fri", "Sat", "Sun"}
}

func months() []string {
	return []string{"Jan", "Feb", "Mar", "Apr", "May", "Jun", "Jul", "Aug", "Sep", "Oct", "Nov", "Dec"}
}
