package entry_test

import (
	"bytes"
	"cmp"
	"crypto/sha256"
	"encoding/binary"
	"encoding/hex"
	library "encoding/json"
	"fmt"
	"io"
	"math/rand"
	"regexp"
	"slices"
	"strconv"
	"strings"
	"testing"
	"unicode/utf8"

	"broadsheet/api"
	"broadsheet/date"
	"broadsheet/entry"
	"broadsheet/esc"
	"broadsheet/link"
)

// show a value, cut where it is long.
func show(v any) string {
	return fmt.Sprintf("%.400s", fmt.Sprintf("%#v", v))
}

var blanks = regexp.MustCompile(`[ \t\n\f\r]+`)

func squeezeOracle(s string) string {
	return strings.Trim(blanks.ReplaceAllString(repaired(s), " "), " ")
}

// repaired goes by the runes of s, of which a bad byte is one.
func repaired(s string) string { return string([]rune(s)) }

func plainOracle(s string) string {
	return strings.Map(func(r rune) rune {
		if r < 0x20 && r != 9 && r != 10 && r != 13 || r == 0xFFFE || r == 0xFFFF {
			return -1
		}
		return r
	}, repaired(s))
}

func cutOracle(s string, n int) string {
	if points := []rune(s); len(points) > n {
		return string(points[:n-1]) + "…"
	}
	return s
}

func makeOracle(b api.Link, r api.Raw) (e api.Entry, ok bool) {
	if s := squeezeOracle(r.Link); s != "" {
		if l, wrong := link.Resolve(b, s); wrong == api.OK {
			e.Link = link.Print(link.Canon(l))
		}
		if len(e.Link) > 2048 {
			e.Link = ""
		}
	}
	e.Title = cutOracle(squeezeOracle(plainOracle(r.Title)), 200)
	e.Body = cutOracle(plainOracle(r.Body), 4000)
	wrong := api.OK
	if r.Mail {
		e.When, wrong = date.Mail(squeezeOracle(r.Date))
	} else {
		e.When, wrong = date.Atom(squeezeOracle(r.Date))
	}
	if wrong != api.OK {
		e.When = 0
	}
	if e.Title+e.Body == "" {
		return api.Entry{}, false
	}
	return e, true
}

func hashOracle(e api.Entry) string {
	h := sha256.New()
	for _, s := range []string{squeezeOracle(e.Title), squeezeOracle(e.Body)} {
		binary.Write(h, binary.BigEndian, uint64(len(s)))
		io.WriteString(h, s)
	}
	return hex.EncodeToString(h.Sum(nil))
}

func orderOracle(a, b api.Entry) int {
	return cmp.Or(-cmp.Compare(a.When, b.When), cmp.Compare(a.Link, b.Link), cmp.Compare(hashOracle(a), hashOracle(b)))
}

// normalOracle asks each rule of each part.
func normalOracle(e api.Entry) bool {
	if e.Link != "" {
		l, wrong := link.Parse(e.Link)
		if wrong != api.OK || l != link.Canon(l) {
			return false
		}
	}
	for _, s := range []string{e.Title, e.Body} {
		if !utf8.ValidString(s) || plainOracle(s) != s {
			return false
		}
	}
	switch {
	case squeezeOracle(e.Title) != e.Title,
		utf8.RuneCountInString(e.Title) > 200,
		utf8.RuneCountInString(e.Body) > 4000,
		e.Title == "" && e.Body == "",
		e.When < -1099511627776,
		e.When > 1099511627776:
		return false
	}
	return true
}

func putOracle(e api.Entry) string {
	if !utf8.ValidString(e.Link) || !utf8.ValidString(e.Title) || !utf8.ValidString(e.Body) {
		return ""
	}
	return fmt.Sprintf("[%s,%s,%s,%d]", esc.Json(e.Link), esc.Json(e.Title), esc.Json(e.Body), e.When)
}

// getOracle reads by the library what it takes for a list of four.
func getOracle(s string) (api.Entry, bool) {
	decoder := library.NewDecoder(bytes.NewReader([]byte(s)))
	decoder.UseNumber()
	var list []any
	if decoder.Decode(&list) != nil || len(list) != 4 {
		return api.Entry{}, false
	}
	var e api.Entry
	parts := []*string{&e.Link, &e.Title, &e.Body}
	for i, part := range parts {
		text, ok := list[i].(string)
		if !ok {
			return api.Entry{}, false
		}
		*part = text
	}
	number, ok := list[3].(library.Number)
	if !ok {
		return api.Entry{}, false
	}
	when, err := strconv.ParseInt(number.String(), 10, 64)
	e.When = int(when)
	if err != nil || !normalOracle(e) || putOracle(e) != s {
		return api.Entry{}, false
	}
	return e, true
}

func sameMake(t *testing.T, b api.Link, r api.Raw) (api.Entry, bool) {
	t.Helper()
	want, is := makeOracle(b, r)
	e, ok := entry.Make(b, r)
	if e != want || ok != is {
		t.Fatalf("Make(%+v, %s): %s %v, not %s %v", b, show(r), show(e), ok, show(want), is)
	}
	if ok != entry.Normal(e) {
		t.Fatalf("Make(%+v, %s): is %s normal?", b, show(r), show(e))
	}
	return e, ok
}

// sameAsked holds Hash, Normal and Put against the oracles, and what is put
// against Get.
func sameAsked(t *testing.T, e api.Entry) {
	t.Helper()
	if got, want := entry.Hash(e), hashOracle(e); got != want {
		t.Fatalf("Hash(%s): %s, not %s", show(e), got, want)
	}
	if got, want := entry.Normal(e), normalOracle(e); got != want {
		t.Fatalf("Normal(%s): %v", show(e), got)
	}
	s := entry.Put(e)
	if want := putOracle(e); s != want {
		t.Fatalf("Put(%s): %.400q, not %.400q", show(e), s, want)
	}
	again, wrong := entry.Get(s)
	switch {
	case normalOracle(e) && (wrong != api.OK || again != e),
		!normalOracle(e) && (wrong != api.ErrForm || again != api.Entry{}):
		t.Fatalf("Get(Put(%s)): %s %v", show(e), show(again), wrong)
	}
}

func sameGet(t *testing.T, s string) (api.Entry, bool) {
	t.Helper()
	want, is := getOracle(s)
	e, wrong := entry.Get(s)
	if e != want || (wrong == api.OK) != is || !is && wrong != api.ErrForm {
		t.Fatalf("Get(%.400q): %s %v, not %s %v", s, show(e), wrong, show(want), is)
	}
	return e, is
}

func sameLess(t *testing.T, a, b api.Entry) {
	t.Helper()
	order := orderOracle(a, b)
	if entry.Less(a, b) != (order < 0) || entry.Less(b, a) != (order > 0) {
		t.Fatalf("Less(%s, %s): %v, and the other way round %v, not %d", show(a), show(b), entry.Less(a, b), entry.Less(b, a), order)
	}
}

// rows tells every row of up to most of the pieces.
func rows(pieces []string, most int, tell func(string)) {
	tell("")
	if most == 0 {
		return
	}
	for _, p := range pieces {
		rows(pieces, most-1, func(row string) { tell(p + row) })
	}
}

// long is how many pieces a row has, one fewer in short runs.
func long(most int) int {
	if testing.Short() {
		return most - 1
	}
	return most
}

func TestRowsOfTexts(t *testing.T) { // P9.1 to P9.3
	rows([]string{"a", " ", "\n", "\r", "\t", "\f", "\x00", "\v", "\xff", "\xe2\x82", "é", "\uffff"}, long(4), func(row string) {
		sameMake(t, api.Link{}, api.Raw{Title: row})
		sameMake(t, api.Link{}, api.Raw{Body: row})
		sameAsked(t, api.Entry{Title: row})
		sameAsked(t, api.Entry{Title: "t", Body: row})
	})
	pieces := []string{"a", "😀", " ", "\x00", "\xff", "…"}
	rows(pieces, long(4), func(row string) {
		for _, ahead := range []string{strings.Repeat("a", 198), strings.Repeat("é ", 98) + "b"} {
			sameMake(t, api.Link{}, api.Raw{Title: ahead + row})
			sameAsked(t, api.Entry{Title: ahead + row})
		}
	})
	rows(pieces, 3, func(row string) {
		sameMake(t, api.Link{}, api.Raw{Body: strings.Repeat("é ", 1999) + row})
		sameAsked(t, api.Entry{Body: strings.Repeat("é ", 1999) + row})
	})
}

func TestRowsOfLinks(t *testing.T) { // P9.1, P9.3
	bases := []api.Link{{}, {Scheme: "http", Host: "h"}, {Scheme: "HTTPS", Host: "h", Port: 443, Path: "/a/b", Query: "q", HasQuery: true}}
	rows([]string{"http://g", "/", "..", "?", "#", "utm_", "&", "%2e", " ", "\x00"}, long(4), func(row string) {
		for _, b := range bases {
			e, _ := sameMake(t, b, api.Raw{Link: row, Title: "t"})
			sameAsked(t, e)
		}
		sameAsked(t, api.Entry{Link: row, Title: "t"})
		sameAsked(t, api.Entry{Link: "http://h/" + row, Title: "t"})
	})
}

func TestRowsOfLines(t *testing.T) { // P9.4
	pieces := []string{"[", "]", ",", `""`, `"a"`, "0", "-", "1", " ", "null"}
	rows(pieces, long(5), func(row string) {
		sameGet(t, row)
		sameGet(t, `["","a",""`+row)
		sameGet(t, `["",`+row+`,"",0]`)
	})
	rows([]string{`,""`, `,"a"`, `,"http://h/"`, ",0", ",-1", ",null", ",[]", `," "`}, long(5), func(row string) {
		sameGet(t, "["+strings.TrimPrefix(row, ",")+"]")
	})
}

// TestNeighbours puts each byte into and in the place of each byte of a line,
// leaves each one out, and ends behind it.
func TestNeighbours(t *testing.T) { // P9.4
	for _, e := range []api.Entry{{Link: "http://h/", Title: "a b", Body: "\"é<", When: -50}, {Body: "\n", When: 1099511627776}} {
		s := entry.Put(e)
		for at := range len(s) {
			sameGet(t, s[:at])
			sameGet(t, s[:at]+s[at+1:])
			for c := range 0x100 {
				one := string([]byte{byte(c)})
				sameGet(t, s[:at]+one+s[at+1:])
				sameGet(t, s[:at]+one+s[at:])
			}
		}
	}
}

// maker makes raw entries and entries from numbers.
type maker struct{ random *rand.Rand }

func (m maker) one(of ...string) string { return of[m.random.Intn(len(of))] }

func (m maker) text() string {
	var b strings.Builder
	for range m.random.Intn(6) {
		b.WriteString(m.one("a", "b", "é", "€", "😀", " ", "  ", "\n", "\t", "\f", "\x00", "\x7f", "\xff", "\xe2\x82", "\uffff", "\"", "\\", "<", "\u2028", "…", "\u00a0"))
	}
	if m.random.Intn(8) == 0 {
		b.WriteString(strings.Repeat(m.one("a", "é ", "😀", "\x00", "\xff"), m.random.Intn(4100)))
	}
	return b.String()
}

func (m maker) link() string {
	var b strings.Builder
	b.WriteString(m.one("", "", "http://h", "http://h/", "HTTPS://H:443/", "//g/", "/", " ", "mailto:", "http:"))
	for range m.random.Intn(5) {
		b.WriteString(m.one("a", "A", "/", "..", ".", "?", "&", "utm_", "#", "%2e", "%7E", "%2f", ":80", "\n", " ", "é", "\xff", strings.Repeat("x", 2030)))
	}
	return b.String()
}

func (m maker) date() string {
	s := m.one("", "1970-01-02T00:00:00Z", "1969-12-31 23:59:59.5+01:00", "Fri, 2 Jan 70 00:00 GMT", "31 Dec 1969 23:59:59 -0100", "9999-12-31T23:59:59Z", "0001-01-01T00:00:00Z", "29 Feb 2001 00:00 GMT", m.text())
	return m.one("", " ", "\n\t", "\f") + s + m.one("", " ", "\r\n", "\v")
}

func (m maker) raw() api.Raw {
	return api.Raw{Link: m.link(), Title: m.text(), Body: m.text(), Date: m.date(), Mail: m.random.Intn(2) == 0}
}

func (m maker) base() api.Link {
	return api.Link{Scheme: m.one("http", "HTTPS", "ftp", ""), Host: m.one("h", "H.x", ""), Port: []int{0, 0, 80, 443, 7, -1}[m.random.Intn(6)], Path: m.one("", "/", "/a/b", "a", "/a b/"), Query: m.one("", "q"), HasQuery: m.random.Intn(2) == 0}
}

// spoil one part of an entry.
func (m maker) spoil(e api.Entry) api.Entry {
	switch m.random.Intn(4) {
	case 0:
		e.Link = m.link()
	case 1:
		e.Title = m.text()
	case 2:
		e.Body = m.text()
	case 3:
		e.When = []int{0, 1, -1, 1 << 40, 1<<40 + 1, -1 << 40, -1<<40 - 1, 1<<63 - 1, -1 << 63}[m.random.Intn(9)]
	}
	return e
}

func TestMadeUpEntries(t *testing.T) { // P9.1 to P9.4
	m := maker{rand.New(rand.NewSource(9))}
	times := 8000
	if testing.Short() {
		times = 1000
	}
	before := api.Entry{Title: "t"}
	for range times {
		e, ok := sameMake(t, m.base(), m.raw())
		if !ok {
			continue
		}
		sameAsked(t, e)
		spoiled := m.spoil(e)
		sameAsked(t, spoiled)
		sameLess(t, e, spoiled)
		sameLess(t, e, before)
		before = e
		s := entry.Put(e)
		at := m.random.Intn(len(s))
		sameGet(t, s[:at]+m.one("", " ", "0", "1", "a", "\"", "\\", ",", "\xff", "\\u0061")+s[at:])
	}
}

// TestMadeUpOrder sorts entries, in whatever order they come, into one.
func TestMadeUpOrder(t *testing.T) { // P9.2
	m := maker{rand.New(rand.NewSource(2))}
	for range 50 {
		var all []api.Entry
		for range 40 {
			all = append(all, api.Entry{Link: m.one("", "a", "b", "é"), Title: m.one("", "a", "b", "c", " a "), Body: m.one("", "a"), When: m.random.Intn(3) - 1})
		}
		byLess := func(a, b api.Entry) int {
			switch {
			case entry.Less(a, b):
				return -1
			case entry.Less(b, a):
				return 1
			}
			return 0
		}
		want := slices.Clone(all)
		slices.SortStableFunc(want, orderOracle)
		slices.SortStableFunc(all, byLess)
		if !slices.Equal(all, want) {
			t.Fatalf("%s, not %s", show(all), show(want))
		}
	}
}

func FuzzCalls(f *testing.F) { // P9.1 to P9.4
	f.Add("http", "h", "/", "a?utm_x=1", " A  b ", "", "1970-01-02T00:00:00Z", false, 86400)
	f.Add("", "", "", "HTTP://H:80#", "\x00", "\xff<", "Fri, 2 Jan 70 00:00 GMT", true, -1<<40)
	f.Add("https", "h", "/a/b", "../c", `["","a","",0]`, `["","a","",-0]`, " ", true, 1<<40+1)
	f.Fuzz(func(t *testing.T, scheme, host, path, l, title, body, day string, mail bool, when int) {
		b := api.Link{Scheme: scheme, Host: host, Path: path}
		e, _ := sameMake(t, b, api.Raw{Link: l, Title: title, Body: body, Date: day, Mail: mail})
		sameAsked(t, e)
		raw := api.Entry{Link: l, Title: title, Body: body, When: when}
		sameAsked(t, raw)
		sameLess(t, e, raw)
		sameLess(t, raw, api.Entry{Link: l, Title: body, Body: title, When: when})
		for _, s := range []string{title, body, entry.Put(raw)} {
			if again, ok := sameGet(t, s); ok {
				sameAsked(t, again)
			}
		}
	})
}
