package date_test

import (
	"fmt"
	"math"
	"math/rand"
	"regexp"
	"slices"
	"strconv"
	"strings"
	"testing"
	"time"

	"broadsheet/api"
	"broadsheet/date"
)

const (
	firstTime = -62135596800 // the beginning of the year 1
	lastTime  = 253402300799 // the last second of the year 9999
	day       = 86400
)

var (
	monthNames = []string{"Jan", "Feb", "Mar", "Apr", "May", "Jun", "Jul", "Aug", "Sep", "Oct", "Nov", "Dec"}
	dayNames   = []string{"Mon", "Tue", "Wed", "Thu", "Fri", "Sat", "Sun"}
)

// hoursBehind has the zones' names, and by how many hours each is behind.
var hoursBehind = map[string]int{
	"GMT": 0, "UT": 0, "Z": 0, "EST": 5, "EDT": 4, "CST": 6, "CDT": 5, "MST": 7, "MDT": 6, "PST": 8, "PDT": 7,
}

type reading struct {
	s    string
	want int
}

type reads func(string) (int, api.Errno)

func accept(t *testing.T, call reads, readings ...reading) {
	t.Helper()
	for _, r := range readings {
		if got, e := call(r.s); got != r.want || e != api.OK {
			t.Errorf("%q: %d %v, not %d", r.s, got, e, r.want)
		}
	}
}

func refuse(t *testing.T, call reads, texts ...string) {
	t.Helper()
	for _, s := range texts {
		if got, e := call(s); got != 0 || e != api.ErrDate {
			t.Errorf("%q: %d %v, not refused", s, got, e)
		}
	}
}

func TestAtom(t *testing.T) { // P3.1
	accept(t, date.Atom,
		reading{"1970-01-01T00:00:00Z", 0},
		reading{"1970-01-02T00:00:01.5+00:00", 86401},
		reading{"2000-02-29 23:59:60z", 951868799},
		reading{"1969-12-31T23:59:59Z", -1},
		reading{"2024-12-31T12:34:56Z", 1735648496},
		reading{"0001-01-01T00:00:00Z", firstTime},
		reading{"9999-12-31T23:59:59Z", lastTime},
	)
	for _, between := range []string{"T", "t", " "} {
		accept(t, date.Atom, reading{"1970-01-02" + between + "00:00:00Z", day})
	}
	for _, between := range []string{"", "  ", "\t", "\n", "_", "x", "TT", " T", "T ", "\u00a0", "\x00"} {
		refuse(t, date.Atom, "1970-01-02"+between+"00:00:00Z")
	}
}

func TestAtomFraction(t *testing.T) { // P3.1
	for _, digits := range []string{"0", "5", "9", "000", "999999999", strings.Repeat("9", 100), strings.Repeat("1", 1<<16)} {
		accept(t, date.Atom,
			reading{"1970-01-01T00:00:59." + digits + "Z", 59},
			reading{"1970-01-01T00:00:59." + digits + "+00:01", -1},
			reading{"1969-12-31T23:59:59." + digits + "z", -1},
		)
	}
	for _, fraction := range []string{".", "..", ".5.", ".5.5", ",5", ".-5", ". 5", ".5 ", ".x", ".5x", ".\u0665", ":5", "5", ".+5"} {
		refuse(t, date.Atom, "1970-01-01T00:00:59"+fraction+"Z", "1970-01-01T00:00:59"+fraction+"+00:00")
	}
	refuse(t, date.Atom, "1970-01-01T00:00.5Z", "1970-01-01T00:00:59.5", "1970-01-01T00:00:59.", "1970-01-01.5T00:00:59Z")
}

func TestAtomZone(t *testing.T) { // P3.1
	for zone, ahead := range map[string]int{
		"Z": 0, "z": 0, "+00:00": 0, "-00:00": 0, "+00:01": 60, "-00:01": -60, "+01:00": 3600, "-01:00": -3600,
		"+02:30": 9000, "-02:30": -9000, "+00:59": 3540, "+23:59": 86340, "-23:59": -86340, "+23:00": 82800,
	} {
		accept(t, date.Atom, reading{"1970-01-03T00:00:00" + zone, 2*day - ahead})
	}
	refuseZones(t, date.Atom, "1970-01-03T00:00:00", []string{
		"+24:00", "-24:00", "+00:60", "-00:60", "+99:99", "+0000", "+00", "+0:00", "+00:0", "+000:00", "+00:000",
		"+00:00Z", "Z+00:00", "+", "-", "+:", "00:00", " 00:00", "ZZ", "Zz", "Z ", " Z", "GMT", "UT", "UTC", "A",
		"+00.00", "+00 :00", "+ 00:00", "++00:00", "+-0:00", "+00:-1", "\u221200:00", "+00:00:00", "",
	})
	// The year is as it is written, so an offset may lead out of the years.
	accept(t, date.Atom,
		reading{"0001-01-01T00:00:00+23:59", firstTime - 86340},
		reading{"9999-12-31T23:59:59-23:59", lastTime + 86340},
	)
}

func refuseZones(t *testing.T, call reads, ahead string, zones []string) {
	t.Helper()
	for _, zone := range zones {
		refuse(t, call, ahead+zone)
	}
}

func TestMail(t *testing.T) { // P3.1
	accept(t, date.Mail,
		reading{"Fri, 2 Jan 70 00:00 GMT", day},
		reading{"Fri, 02 Jan 1970 00:00:00 GMT", day},
		reading{"1 Jan 1970 00:00:00 +0000", 0},
		reading{"Tue, 29 Feb 2000 23:59:60 GMT", 951868799},
		reading{"31 Dec 2024 12:34:56 Z", 1735648496},
		reading{"31 Dec 2024 12:34 Z", 1735648440},
		reading{"01 Jan 0001 00:00:00 GMT", firstTime},
		reading{"31 Dec 9999 23:59:59 GMT", lastTime},
	)
}

func TestMailDayName(t *testing.T) { // P3.1
	for _, name := range dayNames { // 2 January 1970 was a Friday, but any name will do
		accept(t, date.Mail,
			reading{name + ", 02 Jan 1970 00:00:00 GMT", day},
			reading{name + ", 2 Jan 70 00:00 GMT", day},
		)
		for _, wrong := range []string{
			name + ",", name + " ", name, name + ",  ", name + ",\t", name + " , ", ", ", " " + name + ", ",
			name + "; ", name + ". ", name + ", " + name + ", ", strings.ToLower(name) + ", ",
			strings.ToUpper(name) + ", ", name[:2] + ", ", name + "day, ", name + "x, ", name + ", ,",
		} {
			refuse(t, date.Mail, wrong+"02 Jan 1970 00:00:00 GMT")
		}
	}
	refuse(t, date.Mail, "Foo, 02 Jan 1970 00:00:00 GMT", "Jan, 02 Jan 1970 00:00:00 GMT", ",02 Jan 1970 00:00:00 GMT")
}

func TestMailDay(t *testing.T) { // P3.1
	for d := 1; d <= 31; d++ {
		accept(t, date.Mail,
			reading{fmt.Sprintf("%d Jan 1970 00:00 GMT", d), (d - 1) * day},
			reading{fmt.Sprintf("%02d Jan 1970 00:00 GMT", d), (d - 1) * day},
		)
		refuse(t, date.Mail, fmt.Sprintf("%03d Jan 1970 00:00 GMT", d))
	}
	for _, d := range []string{"0", "00", "000", "32", "99", "100", "123", "-1", "+1", "", " ", "1.", "1st", "x", "\u0661", "1,"} {
		refuse(t, date.Mail, d+" Jan 1970 00:00 GMT", "Thu, "+d+" Jan 1970 00:00 GMT")
	}
}

func TestMailMonth(t *testing.T) { // P3.1
	for i, name := range monthNames {
		want := int(time.Date(1970, time.Month(i+1), 1, 0, 0, 0, 0, time.UTC).Unix())
		accept(t, date.Mail, reading{"1 " + name + " 1970 00:00 GMT", want})
		for _, wrong := range []string{
			strings.ToLower(name), strings.ToUpper(name), name[:2], name + "x", name + ".", name + ",", "x" + name,
			time.Month(i+1).String() + "x", name + name,
		} {
			refuse(t, date.Mail, "1 "+wrong+" 1970 00:00 GMT")
		}
	}
	for _, name := range []string{"", " ", "Foo", "January", "Sept", "01", "1", "Mon", "J\u00e4n"} {
		refuse(t, date.Mail, "1 "+name+" 1970 00:00 GMT")
	}
}

func TestMailYear(t *testing.T) { // P3.1
	year := func(y int) int { return int(time.Date(y, 1, 1, 0, 0, 0, 0, time.UTC).Unix()) }
	for y := range 100 {
		want := year(1900 + y)
		if y < 50 {
			want = year(2000 + y)
		}
		accept(t, date.Mail, reading{fmt.Sprintf("1 Jan %02d 00:00 GMT", y), want})
	}
	accept(t, date.Mail,
		reading{"1 Jan 49 00:00 Z", 2493072000},
		reading{"1 Jan 50 00:00 UT", -631152000},
		reading{"29 Feb 00 00:00 Z", 951782400},
	)
	for y := 1; y <= 9999; y++ {
		accept(t, date.Mail, reading{fmt.Sprintf("1 Jan %04d 00:00 GMT", y), year(y)})
	}
	for _, y := range []string{
		"", "0", "7", "000", "001", "049", "100", "197", "999", "0000", "00000", "01970", "10000", "19700",
		"-970", "+970", "-1", "197x", "19 70", "\u0661970",
	} {
		refuse(t, date.Mail, "1 Jan "+y+" 00:00 GMT")
	}
}

func TestMailZone(t *testing.T) { // P3.1
	for name, hours := range hoursBehind {
		accept(t, date.Mail,
			reading{"1 Jan 1970 00:00 " + name, hours * 3600},
			reading{"Thu, 01 Jan 1970 12:34:56 " + name, 45296 + hours*3600},
		)
		if lower := strings.ToLower(name); lower != name {
			refuse(t, date.Mail, "1 Jan 1970 00:00 "+lower)
		}
		refuseZones(t, date.Mail, "1 Jan 1970 00:00", []string{
			name, "  " + name, " " + name + " ", " " + name + "x", " " + name + name, " " + name + "+0000",
			" (" + name + ")", "\t" + name, " +0000 " + name, " " + name[:len(name)-1],
		})
	}
	for zone, ahead := range map[string]int{
		"+0000": 0, "-0000": 0, "+0001": 60, "-0001": -60, "+0100": 3600, "-0100": -3600, "+0230": 9000,
		"-0230": -9000, "+0059": 3540, "+2359": 86340, "-2359": -86340, "+2300": 82800,
	} {
		accept(t, date.Mail, reading{"3 Jan 1970 00:00:00 " + zone, 2*day - ahead})
	}
	refuseZones(t, date.Mail, "3 Jan 1970 00:00:00 ", []string{
		"+00:00", "-01:00", "+2400", "-2400", "+0060", "-0060", "+9999", "+000", "+00000", "+00", "+0", "+", "-", "",
		"0000", "+0000 ", "+ 000", "+0000Z", "+00 00", "++000", "+-000", "CET", "UTC", "A", "GM", "U", "ZZ",
		"+00x0", "AST", "HST", "\u22120000",
	})
	accept(t, date.Mail,
		reading{"1 Jan 0001 00:00 +2359", firstTime - 86340},
		reading{"31 Dec 9999 23:59:59 PST", lastTime + 8*3600},
	)
}

// TestClocks goes through all two digits of hours, minutes and seconds.
func TestClocks(t *testing.T) { // P3.1
	for n := range 100 {
		two := fmt.Sprintf("%02d", n)
		for _, c := range []struct {
			clock      string
			most, each int
		}{
			{two + ":00:00", 23, 3600},
			{"00:" + two + ":00", 59, 60},
			{"00:00:" + two, 60, 1},
		} {
			want := n * c.each
			if c.most == 60 && n == 60 {
				want = 59
			}
			texts := []string{"1970-01-01T" + c.clock + "Z", "1 Jan 1970 " + c.clock + " GMT"}
			for i, call := range []reads{date.Atom, date.Mail} {
				if n > c.most {
					refuse(t, call, texts[i])
				} else {
					accept(t, call, reading{texts[i], want})
				}
			}
		}
		if n > 23 {
			refuse(t, date.Mail, "1 Jan 1970 "+two+":00 GMT")
		} else {
			accept(t, date.Mail, reading{"1 Jan 1970 " + two + ":00 GMT", n * 3600})
		}
	}
	accept(t, date.Atom, reading{"1970-01-01T12:34:60Z", 45299}, reading{"1970-01-01T12:34:60.9+12:34", 59})
	accept(t, date.Mail, reading{"1 Jan 1970 12:34:60 -0100", 48899})
	for _, clock := range []string{
		"0:00:00", "00:0:00", "00:00:0", "000:00:00", "00:000:00", "00:00:000", "00:00:", "00", "00:", "0000",
		"00:00:00:00", "00.00.00", "00 00 00", ":00:00", "24:00:00", "23:60:00", "23:59:61", "-1:00:00",
		"+1:00:00", " 0:00:00", "00: 0:00", "0x:00:00", "1e:00:00", "000000", "00-00-00",
	} {
		refuse(t, date.Atom, "1970-01-01T"+clock+"Z")
		refuse(t, date.Mail, "1 Jan 1970 "+clock+" GMT")
	}
	refuse(t, date.Atom, "1970-01-01T00:00Z", "1970-01-01T00:00+00:00")
	refuse(t, date.Mail, "1 Jan 1970 00:00:00.5 GMT", "1 Jan 1970 00:00: GMT", "1 Jan 1970 00:00:00")
}

// TestDays goes through all months of many years with the days 0 to 32.
func TestDays(t *testing.T) { // P3.1
	for _, y := range []int{0, 1, 2, 3, 4, 99, 100, 101, 200, 300, 400, 1582, 1600, 1700, 1752, 1800, 1899, 1900, 1901,
		1904, 1968, 1969, 1970, 1971, 1972, 1999, 2000, 2001, 2004, 2023, 2024, 2100, 2400, 8000, 9996, 9998, 9999} {
		for m := 0; m <= 13; m++ {
			for d := 0; d <= 32; d++ {
				checkDay(t, y, m, d)
			}
		}
	}
	refuse(t, date.Atom, "1900-02-29T00:00:00Z", "2001-02-29T00:00:00Z", "2000-02-30T00:00:00Z", "0000-01-01T00:00:00Z")
	accept(t, date.Atom, reading{"2000-02-29T00:00:00Z", 951782400}, reading{"1904-02-29T00:00:00Z", -2077747200})
}

func checkDay(t *testing.T, y, m, d int) {
	t.Helper()
	atom := fmt.Sprintf("%04d-%02d-%02dT00:00:00Z", y, m, d)
	mail := ""
	if m >= 1 && m <= 12 {
		mail = fmt.Sprintf("%d %s %04d 00:00 GMT", d, monthNames[m-1], y)
	}
	at := time.Date(y, time.Month(m), d, 0, 0, 0, 0, time.UTC)
	if y < 1 || at.Year() != y || int(at.Month()) != m || at.Day() != d {
		refuse(t, date.Atom, atom)
		refuse(t, date.Mail, mail)
		return
	}
	accept(t, date.Atom, reading{atom, int(at.Unix())})
	accept(t, date.Mail, reading{mail, int(at.Unix())})
}

// TestRefuses has texts that miss a form by little or by much.
func TestRefuses(t *testing.T) { // P3.1
	refuse(t, date.Atom,
		"", " ", "x", "Z", "T", "1970", "1970-01", "1970-01-01", "1970-01-01T", "1970-01-01T00:00:00",
		"1970-1-01T00:00:00Z", "1970-01-1T00:00:00Z", "197-01-01T00:00:00Z", "01970-01-01T00:00:00Z",
		"70-01-01T00:00:00Z", "10000-01-01T00:00:00Z", "-970-01-01T00:00:00Z", "+970-01-01T00:00:00Z",
		"1970/01/01T00:00:00Z", "19700101T000000Z", "1970-00-01T00:00:00Z", "1970-13-01T00:00:00Z",
		"1970-01-00T00:00:00Z", "1970-01-32T00:00:00Z", "1970-Jan-01T00:00:00Z", "0000-01-01T00:00:00Z",
		" 1970-01-01T00:00:00Z", "1970-01-01T00:00:00Z ", "1970-01-01T00:00:00 Z", "1970-01-01T00:00:00Z\n",
		"1970-01-01T00:00:00Zx", "1970-01-01T00:00:00Z1970-01-01T00:00:00Z", "\ufeff1970-01-01T00:00:00Z",
		"197\u0660-01-01T00:00:00Z", "1970-01-01T00:00:00\xff", "\xff", "\x00", "1970-01-01T00:00:00Z\x00",
		"1970\u201001-01T00:00:00Z", "Fri, 02 Jan 1970 00:00:00 GMT", "1 Jan 1970 00:00 GMT",
	)
	refuse(t, date.Mail,
		"", " ", "x", "GMT", "Thu", "Thu,", "Thu, ", "1", "1 ", "1 Jan", "1 Jan 1970", "1 Jan 1970 00:00",
		"1 Jan 1970 00:00 ", " 1 Jan 1970 00:00 GMT", "1 Jan 1970 00:00 GMT ", "1  Jan 1970 00:00 GMT",
		"1 Jan  1970 00:00 GMT", "1 Jan 1970  00:00 GMT", "1 Jan 1970 00:00  GMT", "1Jan 1970 00:00 GMT",
		"1 Jan1970 00:00 GMT", "1 Jan 197000:00 GMT", "1 Jan 1970 00:00GMT", "1 Jan 1970 00:00+0000",
		"1\tJan 1970 00:00 GMT", "1 Jan\t1970 00:00 GMT", "1-Jan-1970 00:00 GMT", "1 Jan 1970 00:00 GMT\n",
		"Jan 1 1970 00:00 GMT", "Thu Jan  1 00:00:00 1970", "Thursday, 01-Jan-70 00:00:00 GMT",
		"Thu, 01 Jan 1970 00:00:00 GMT (UTC)", "1 Jan 1970 00:00 GMT1 Jan 1970 00:00 GMT", "\ufeff1 Jan 1970 00:00 GMT",
		"\xff", "\x00", "1 Jan 1970 00:00 GMT\x00", "1\u00a0Jan 1970 00:00 GMT", "30 Feb 2000 00:00 GMT",
		"29 Feb 1900 00:00 GMT", "31 Apr 2000 00:00 GMT", "32 Jan 1970 00:00 GMT", "1 Jan 0000 00:00 GMT",
		"1970-01-01T00:00:00Z", "1970-01-02 00:00:00z",
	)
}

// TestNeighbours changes, drops, doubles and puts in single bytes of good
// texts and holds each of what comes of it against the chapter's words.
func TestNeighbours(t *testing.T) { // P3.1
	seeds := []string{
		"2000-02-29T23:59:59Z", "1900-02-28 00:00:60.25-23:59", "0001-01-01t00:00:00+00:00", "9999-12-31T19:09:29.0z",
		"Tue, 29 Feb 2000 23:59:60 GMT", "2 Jan 70 00:00 EST", "30 Nov 49 09:19:29 -2359", "Sun, 1 May 1900 20:00 PDT",
		"31 Dec 9999 23:59:59 UT",
	}
	bytes := []byte(" 0123456789+-.:,TtZzGMUESDCPJanFebrMyulAgpOcovDdiWhFSx\x00\xff")
	for _, s := range seeds {
		compare(t, s)
		for i := range len(s) + 1 {
			compare(t, s[:i])
			compare(t, s[i:])
			for _, b := range bytes {
				compare(t, s[:i]+string([]byte{b})+s[i:])
				if i < len(s) {
					compare(t, s[:i]+string([]byte{b})+s[i+1:])
				}
			}
			if i < len(s) {
				compare(t, s[:i]+s[i+1:])
				compare(t, s[:i+1]+s[i:])
			}
		}
	}
}

// TestMadeUp puts texts together of pieces of the forms, most of them right.
func TestMadeUp(t *testing.T) { // P3.1
	random := rand.New(rand.NewSource(3))
	pick := func(words ...string) string { return words[random.Intn(len(words))] }
	two := func(most int) string { return fmt.Sprintf("%02d", random.Intn(most+1)) }
	good := 0
	for range 200000 {
		atom := fmt.Sprintf("%04d", random.Intn(10000)) + "-" + two(12) + "-" + two(31) + pick("T", "t", " ") +
			two(24) + ":" + two(60) + ":" + two(61) + pick("", "", ".5", ".", ".123456") +
			pick("Z", "z", "+"+two(24)+":"+two(60), "-"+two(24)+":"+two(60))
		mail := pick("", pick(dayNames...)+", ", pick(dayNames...)+", ", pick(dayNames...)+",") +
			pick(two(31), strconv.Itoa(random.Intn(33))) + " " + pick(monthNames...) + " " +
			pick(two(99), fmt.Sprintf("%04d", random.Intn(10000))) + " " + two(24) + ":" + two(60) +
			pick("", ":"+two(61)) + " " + pick("GMT", "UT", "Z", "EST", "EDT", "CST", "CDT", "MST", "MDT", "PST", "PDT",
			"+"+two(24)+two(60), "-"+two(24)+two(60))
		for _, s := range []string{atom, mail} {
			if compare(t, s) {
				good++
			}
		}
	}
	if good < 100000 {
		t.Errorf("only %d of the texts were dates", good)
	}
}

func TestPrinted(t *testing.T) { // P3.2
	for _, p := range []struct {
		t                int
		atom, mail, date string
	}{
		{0, "1970-01-01T00:00:00Z", "Thu, 01 Jan 1970 00:00:00 GMT", "1970-01-01"},
		{86400, "1970-01-02T00:00:00Z", "Fri, 02 Jan 1970 00:00:00 GMT", "1970-01-02"},
		{-1, "1969-12-31T23:59:59Z", "Wed, 31 Dec 1969 23:59:59 GMT", "1969-12-31"},
		{-86400, "1969-12-31T00:00:00Z", "Wed, 31 Dec 1969 00:00:00 GMT", "1969-12-31"},
		{-86401, "1969-12-30T23:59:59Z", "Tue, 30 Dec 1969 23:59:59 GMT", "1969-12-30"},
		{951868799, "2000-02-29T23:59:59Z", "Tue, 29 Feb 2000 23:59:59 GMT", "2000-02-29"},
		{951868800, "2000-03-01T00:00:00Z", "Wed, 01 Mar 2000 00:00:00 GMT", "2000-03-01"},
		{-2203891200, "1900-03-01T00:00:00Z", "Thu, 01 Mar 1900 00:00:00 GMT", "1900-03-01"},
		{-2203891201, "1900-02-28T23:59:59Z", "Wed, 28 Feb 1900 23:59:59 GMT", "1900-02-28"},
		{1735648496, "2024-12-31T12:34:56Z", "Tue, 31 Dec 2024 12:34:56 GMT", "2024-12-31"},
		{firstTime, "0001-01-01T00:00:00Z", "Mon, 01 Jan 0001 00:00:00 GMT", "0001-01-01"},
		{firstTime + 1, "0001-01-01T00:00:01Z", "Mon, 01 Jan 0001 00:00:01 GMT", "0001-01-01"},
		{firstTime + 365*day - 1, "0001-12-31T23:59:59Z", "Mon, 31 Dec 0001 23:59:59 GMT", "0001-12-31"},
		{firstTime + 365*day, "0002-01-01T00:00:00Z", "Tue, 01 Jan 0002 00:00:00 GMT", "0002-01-01"},
		{lastTime - 365*day, "9998-12-31T23:59:59Z", "Thu, 31 Dec 9998 23:59:59 GMT", "9998-12-31"},
		{lastTime - 365*day + 1, "9999-01-01T00:00:00Z", "Fri, 01 Jan 9999 00:00:00 GMT", "9999-01-01"},
		{lastTime - 1, "9999-12-31T23:59:58Z", "Fri, 31 Dec 9999 23:59:58 GMT", "9999-12-31"},
		{lastTime, "9999-12-31T23:59:59Z", "Fri, 31 Dec 9999 23:59:59 GMT", "9999-12-31"},
	} {
		if got := date.Print(p.t); got != p.atom {
			t.Errorf("Print(%d): %q, not %q", p.t, got, p.atom)
		}
		if got := date.PrintMail(p.t); got != p.mail {
			t.Errorf("PrintMail(%d): %q, not %q", p.t, got, p.mail)
		}
		if got := date.Day(p.t); got != p.date {
			t.Errorf("Day(%d): %q, not %q", p.t, got, p.date)
		}
		checkPrinted(t, p.t)
	}
}

func TestPrintedBeyond(t *testing.T) { // P3.2
	for _, early := range []int{firstTime - 1, firstTime - day, -1 << 40, math.MinInt + 1, math.MinInt} {
		if a, m, d := date.Print(early), date.PrintMail(early), date.Day(early); a != "0001-01-01T00:00:00Z" || m != "Mon, 01 Jan 0001 00:00:00 GMT" || d != "0001-01-01" {
			t.Errorf("%d: %q %q %q", early, a, m, d)
		}
		checkPrinted(t, early)
	}
	for _, late := range []int{lastTime + 1, lastTime + day, 1 << 40, math.MaxInt - 1, math.MaxInt} {
		if a, m, d := date.Print(late), date.PrintMail(late), date.Day(late); a != "9999-12-31T23:59:59Z" || m != "Fri, 31 Dec 9999 23:59:59 GMT" || d != "9999-12-31" {
			t.Errorf("%d: %q %q %q", late, a, m, d)
		}
		checkPrinted(t, late)
	}
}

// TestEveryDay goes through the first and the last second of each day of 400
// years, behind which the calendar repeats itself, and of the first and the
// last ten years; of the others through each 97th day's.
func TestEveryDay(t *testing.T) { // P3.2
	const tenYears = 3653 * day
	spans := []struct{ from, to, step int }{
		{firstTime, firstTime + tenYears, 1},
		{-5364662400, 7258118400, 1}, // 1800 to 2199
		{lastTime + 1 - tenYears, lastTime, 1},
		{firstTime, lastTime, 97},
	}
	for _, span := range spans {
		for at := span.from; at < span.to; at += span.step * day {
			checkPrinted(t, at)
			checkPrinted(t, at+day-1)
			if t.Failed() {
				return
			}
		}
	}
}

func TestEverySecondOfADay(t *testing.T) { // P3.2
	for _, first := range []int{0, -day, firstTime, lastTime - day + 1, 951782400} {
		for s := range day {
			checkPrinted(t, first+s)
		}
		if t.Failed() {
			return
		}
	}
}

func TestMadeUpTimes(t *testing.T) { // P3.2
	random := rand.New(rand.NewSource(4))
	for range 100000 {
		checkPrinted(t, firstTime+int(random.Int63n(lastTime-firstTime+1)))
		checkPrinted(t, int(random.Uint64()))
	}
}

func FuzzCalls(f *testing.F) { // P3.1, P3.2
	for _, s := range []string{"1970-01-02T00:00:01.5+00:00", "Fri, 2 Jan 70 00:00 GMT", "29 Feb 2000 23:59:60 -2359"} {
		f.Add(s, 0)
	}
	f.Fuzz(func(t *testing.T, s string, at int) {
		compare(t, s)
		checkPrinted(t, at)
	})
}

// checkPrinted holds what is printed of a time against the library's calendar,
// and what is read again against the time.
func checkPrinted(t *testing.T, at int) {
	t.Helper()
	near := min(max(at, firstTime), lastTime)
	want := time.Unix(int64(near), 0).UTC()
	a, m, d := date.Print(at), date.PrintMail(at), date.Day(at)
	if a != want.Format("2006-01-02T15:04:05Z") || m != want.Format("Mon, 02 Jan 2006 15:04:05 GMT") || d != want.Format("2006-01-02") {
		t.Errorf("%d: %q %q %q", at, a, m, d)
	}
	if got, e := date.Atom(a); got != near || e != api.OK {
		t.Errorf("Atom(Print(%d)): %d %v", at, got, e)
	}
	if got, e := date.Mail(m); got != near || e != api.OK {
		t.Errorf("Mail(PrintMail(%d)): %d %v", at, got, e)
	}
}

// compare holds both forms against the chapter's words and says whether s is of one of them.
func compare(t *testing.T, s string) bool {
	t.Helper()
	good := false
	for _, form := range []struct {
		name         string
		call, oracle reads
	}{
		{"Atom", date.Atom, atomOracle},
		{"Mail", date.Mail, mailOracle},
	} {
		want, wantE := form.oracle(s)
		if got, e := form.call(s); got != want || e != wantE {
			t.Errorf("%s(%q): %d %v, not %d %v", form.name, s, got, e, want, wantE)
		}
		good = good || wantE == api.OK
	}
	return good
}

var (
	atomPattern = regexp.MustCompile(`\A([0-9]{4})-([0-9]{2})-([0-9]{2})[Tt ]([0-9]{2}):([0-9]{2}):([0-9]{2})(?:\.[0-9]+)?(?:[Zz]|([+-])([0-9]{2}):([0-9]{2}))\z`)
	mailPattern = regexp.MustCompile(`\A(?:(?:Mon|Tue|Wed|Thu|Fri|Sat|Sun), )?([0-9]{1,2}) (Jan|Feb|Mar|Apr|May|Jun|Jul|Aug|Sep|Oct|Nov|Dec) ([0-9]{4}|[0-9]{2}) ([0-9]{2}):([0-9]{2})(?::([0-9]{2}))? (?:([+-])([0-9]{2})([0-9]{2})|(GMT|UT|Z|EST|EDT|CST|CDT|MST|MDT|PST|PDT))\z`)
)

func atomOracle(s string) (int, api.Errno) {
	f := atomPattern.FindStringSubmatch(s)
	if f == nil {
		return 0, api.ErrDate
	}
	return timeOracle(number(f[1]), number(f[2]), number(f[3]), f[4:7], f[7:10], 0)
}

func mailOracle(s string) (int, api.Errno) {
	f := mailPattern.FindStringSubmatch(s)
	if f == nil {
		return 0, api.ErrDate
	}
	year := number(f[3])
	if len(f[3]) == 2 && year <= 49 {
		year += 2000
	} else if len(f[3]) == 2 {
		year += 1900
	}
	month := slices.Index(monthNames, f[2]) + 1
	return timeOracle(year, month, number(f[1]), f[4:7], f[7:10], hoursBehind[f[10]])
}

// timeOracle asks for the chapter's numbers, and the library for the time.
func timeOracle(year, month, dayOf int, clock, offset []string, behind int) (int, api.Errno) {
	hour, minute, second := number(clock[0]), number(clock[1]), number(clock[2])
	hours, minutes := number(offset[1]), number(offset[2])
	at := time.Date(year, time.Month(month), dayOf, 0, 0, 0, 0, time.UTC)
	if year < 1 || month < 1 || month > 12 || at.Day() != dayOf || int(at.Month()) != month ||
		hour > 23 || minute > 59 || second > 60 || hours > 23 || minutes > 59 {
		return 0, api.ErrDate
	}
	ahead := hours*3600 + minutes*60
	if offset[0] == "-" {
		ahead = -ahead
	}
	return int(at.Unix()) + hour*3600 + minute*60 + min(second, 59) - ahead + behind*3600, api.OK
}

// number of digits, 0 where the form left them out.
func number(digits string) int {
	n, _ := strconv.Atoi(digits)
	return n
}
