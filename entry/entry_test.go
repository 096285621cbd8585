package entry_test

import (
	"slices"
	"strings"
	"testing"
	"unsafe"

	"broadsheet/api"
	"broadsheet/entry"
	"broadsheet/link"
)

// letters has one code point of each length in bytes.
var letters = []string{"a", "é", "€", "😀"}

func base(t *testing.T, s string) api.Link {
	t.Helper()
	l, e := link.Parse(s)
	if e != api.OK {
		t.Fatalf("Parse(%q): %v", s, e)
	}
	return l
}

// made wants an entry, and a normal one.
func made(t *testing.T, b api.Link, r api.Raw, want api.Entry) {
	t.Helper()
	e, ok := entry.Make(b, r)
	if !ok || e != want {
		t.Errorf("Make(%+v, %s): %s %v, not %s", b, show(r), show(e), ok, show(want))
	}
	if !entry.Normal(e) {
		t.Errorf("Make(%+v, %s): %s isn't normal", b, show(r), show(e))
	}
}

func notMade(t *testing.T, b api.Link, r api.Raw) {
	t.Helper()
	if e, ok := entry.Make(b, r); ok || e != (api.Entry{}) {
		t.Errorf("Make(%+v, %s): %s %v, not none", b, show(r), show(e), ok)
	}
}

func TestExample(t *testing.T) { // P9.1
	r := api.Raw{Link: "a?utm_x=1", Title: " A  b ", Date: "1970-01-02T00:00:00Z"}
	made(t, base(t, "http://h/"), r, api.Entry{Link: "http://h/a", Title: "A b", When: 86400})
}

func TestMakeLinks(t *testing.T) { // P9.1
	b := base(t, "https://H.x:8080/a/b?q#f")
	for s, want := range map[string]string{
		// none
		"":               "",
		" ":              "",
		" \t\r\n\f ":     "",
		"mailto:a@b":     "",
		"javascript:x":   "",
		"http:":          "",
		"http://":        "",
		"http:///":       "",
		"http:c":         "",
		"http://h:0/":    "",
		"http://h:65536": "",
		"http://h_/":     "",
		"//":             "",
		"a b":            "",
		"a%":             "",
		"a%4g":           "",
		"é":              "",
		"\xff":           "",
		"a\x00":          "",
		"\x00http://h/":  "",
		"a\v":            "",
		"<a>":            "",
		"a#b#c":          "",
		"\u00a0http://h": "",
		// relative
		"c":            "https://h.x:8080/a/c",
		"../c":         "https://h.x:8080/c",
		"../../../c":   "https://h.x:8080/c",
		"c/.":          "https://h.x:8080/a/c/",
		"/c":           "https://h.x:8080/c",
		"//g/c":        "https://g/c",
		"//g":          "https://g/",
		"?c":           "https://h.x:8080/a/b?c",
		"?":            "https://h.x:8080/a/b",
		"#c":           "https://h.x:8080/a/b?q",
		"#":            "https://h.x:8080/a/b?q",
		".":            "https://h.x:8080/a/",
		"/":            "https://h.x:8080/",
		"c:d":          "",
		"./c:d":        "https://h.x:8080/a/c:d",
		" \n c\t":      "https://h.x:8080/a/c",
		"\fc?d\r\n":    "https://h.x:8080/a/c?d",
		" http://G/ ":  "http://g/",
		"\thttp://g\n": "http://g/",
		// in one form
		"HTTP://Ex.COM:80/a/./b/../%7ec?utm_x=1&y=2#z": "http://ex.com/a/~c?y=2",
		"https://h:443":                  "https://h/",
		"https://h:80":                   "https://h:80/",
		"http://h:443/":                  "http://h:443/",
		"http://h/%41%2f%c3":             "http://h/A%2F%C3",
		"http://h/%2e%2e/%2E/a":          "http://h/a",
		"http://h?utm_a&utm_b=1":         "http://h/",
		"http://h?a&%75tm_b=1&c&UTM_=1#": "http://h/?a&c&UTM_=1",
		"http://h/?utm":                  "http://h/?utm",
		"http://h//a":                    "http://h//a",
		"http://h/A":                     "http://h/A",
	} {
		made(t, b, api.Raw{Link: s, Title: "t"}, api.Entry{Link: want, Title: "t"})
	}
}

func TestMakeLinksOfOddBases(t *testing.T) { // P9.1
	for _, b := range []api.Link{
		{}, {Scheme: "ftp", Host: "h"}, {Scheme: "http"}, {Host: "h"}, {Scheme: "http", Host: "h", Port: -1}, {Scheme: "http", Host: "h", Port: 65536},
		{Scheme: "http", Host: "h\xff"}, {Scheme: "http", Host: "h "},
	} {
		for _, s := range []string{"", " ", "a", "/", "/a", "?a", "#a", "..", "mailto:x"} {
			made(t, b, api.Raw{Link: s, Title: "t"}, api.Entry{Title: "t"})
		}
		made(t, b, api.Raw{Link: " HTTP://G:80 ", Title: "t"}, api.Entry{Link: "http://g/", Title: "t"})
	}
	made(t, api.Link{}, api.Raw{Link: "//g", Title: "t"}, api.Entry{Title: "t"})
	made(t, api.Link{Scheme: "http"}, api.Raw{Link: "//g", Title: "t"}, api.Entry{Link: "http://g/", Title: "t"})
	made(t, api.Link{Scheme: "http", Host: "h", Path: "a b"}, api.Raw{Link: "c", Title: "t"}, api.Entry{Link: "http://h/c", Title: "t"})
	made(t, api.Link{Scheme: "http", Host: "h", Path: "/a b/"}, api.Raw{Link: "c", Title: "t"}, api.Entry{Title: "t"})
}

func TestMakeLongLinks(t *testing.T) { // P9.1
	b := base(t, "http://h/a/b")
	of := func(ahead string, long int, behind string) string {
		return ahead + strings.Repeat("x", long-len(ahead)-len(behind)) + behind
	}
	for _, c := range []struct{ s, want string }{
		{of("http://h/", 2047, ""), of("http://h/", 2047, "")},
		{of("http://h/", 2048, ""), of("http://h/", 2048, "")},
		{of("http://h/", 2049, ""), ""},
		{" " + of("http://h/", 2048, "") + "\n", of("http://h/", 2048, "")},
		// One form that is longer than the link.
		{of("http://h?", 2046, ""), of("http://h/?", 2047, "")},
		{of("http://h?", 2047, ""), of("http://h/?", 2048, "")},
		{of("http://h?", 2048, ""), ""},
		{of("http://h:1?", 2047, "#"), of("http://h:1/?", 2047, "")},
		// One form that is shorter than the link, which is too long itself.
		{of("http://h:80/", 2048, ""), of("http://h/", 2045, "")},
		{of("http://h:80/", 2049, ""), ""},
		{of("http://h/?a&utm_", 2048, ""), "http://h/?a"},
		{of("http://h/?a&utm_", 2049, ""), ""},
		{of("http://h/a#", 2048, ""), "http://h/a"},
		{of("http://h/a#", 2049, ""), ""},
		// Resolved: what counts is the whole text, with its dots.
		{of("", 2048-11, ""), of("http://h/a/", 2048, "")},
		{of("", 2048-10, ""), ""},
		{of("../", 2048-11, ""), of("http://h/", 2043, "")},
		{of("../", 2048-10, ""), ""},
		{of("/", 2048-8, ""), of("http://h/", 2048, "")},
		{of("/", 2048-7, ""), ""},
		{of("//", 2048-5, "/"), ""}, // a host of more than 253 bytes
		{of("//", 255, "/") + of("", 2048-5-255, ""), of("http://", 260, "/") + of("", 2048-260, "")},
		{of("//", 254, "?") + of("", 2048-5-254, ""), ""},
	} {
		made(t, b, api.Raw{Link: c.s, Title: "t"}, api.Entry{Link: c.want, Title: "t"})
	}
}

func TestMakeTitles(t *testing.T) { // P9.1
	for s, want := range map[string]string{
		"a":                         "a",
		" A  b ":                    "A b",
		"\t\n\r a \t\n\r b\n":       "a b",
		"a\fb":                      "ab",  // no text of XML, so it parts nothing
		"a \f b":                    "a b", // and blanks beside it meet
		"a\x00b\x1fc":               "abc",
		"a \x00 b":                  "a b",
		"\x00 a \x00":               "a",
		"\ufffea\uffff":             "a",
		"\xff":                      "\ufffd",
		"a\xe2\x82":                 "a\ufffd\ufffd",
		"\ufffd":                    "\ufffd",
		" \xff \xfe ":               "\ufffd \ufffd",
		"\xef\xbf":                  "\ufffd\ufffd",
		"a\u00a0\u2003b\u0085":      "a\u00a0\u2003b\u0085",
		"\v":                        "",
		"\x7f":                      "\x7f",
		"<b>&amp;</b>":              "<b>&amp;</b>",
		"…":                         "…",
		"é€😀\U0010ffff\ue000\ud7ff": "é€😀\U0010ffff\ue000\ud7ff",
	} {
		if want == "" {
			notMade(t, api.Link{}, api.Raw{Title: s})
		}
		made(t, api.Link{}, api.Raw{Title: s, Body: "x"}, api.Entry{Title: want, Body: "x"})
	}
}

func TestMakeBodies(t *testing.T) { // P9.1
	for s, want := range map[string]string{
		"a":               "a",
		" A  b ":          " A  b ",
		"\t\n\r a\r\n\n ": "\t\n\r a\r\n\n ",
		" ":               " ",
		"\n":              "\n",
		"a\fb\vc":         "abc",
		"\x00<b>":         "<b>",
		"\x00\x1f\x08":    "",
		"\ufffe\uffff":    "",
		"\xff\xc0\x80":    "\ufffd\ufffd\ufffd",
		"\ufffd":          "\ufffd",
		"é€😀\x7f\u0085":   "é€😀\x7f\u0085",
	} {
		if want == "" {
			notMade(t, api.Link{}, api.Raw{Body: s})
		} else {
			made(t, api.Link{}, api.Raw{Body: s}, api.Entry{Body: want})
		}
		made(t, api.Link{}, api.Raw{Title: "x", Body: s}, api.Entry{Title: "x", Body: want})
	}
}

// cuts are texts around so many code points, with what is left of them at that.
func cuts(n int) []struct{ s, want string } {
	var all []struct{ s, want string }
	for _, c := range append(letters, "\ufffd", "…", "<", "\"") {
		all = append(all, []struct{ s, want string }{
			{strings.Repeat(c, n-1), strings.Repeat(c, n-1)},
			{strings.Repeat(c, n), strings.Repeat(c, n)},
			{strings.Repeat(c, n+1), strings.Repeat(c, n-1) + "…"},
			{strings.Repeat(c, 3*n), strings.Repeat(c, n-1) + "…"},
			{strings.Repeat(c, n-1) + "b" + c, strings.Repeat(c, n-1) + "…"},
			{strings.Repeat(c, n-2) + "bcd", strings.Repeat(c, n-2) + "b…"},
			{strings.Repeat(c, n-1) + "…", strings.Repeat(c, n-1) + "…"},
			// What is no text of XML doesn't count.
			{strings.Repeat("\x00"+c, n) + "\uffff", strings.Repeat(c, n)},
			{strings.Repeat("\x00"+c, n+1), strings.Repeat(c, n-1) + "…"},
			// Each bad byte counts as one.
			{strings.Repeat(c, n-2) + "\xe2\x82", strings.Repeat(c, n-2) + "\ufffd\ufffd"},
			{strings.Repeat(c, n-1) + "\xe2\x82", strings.Repeat(c, n-1) + "…"},
			{strings.Repeat(c, n) + "\xff", strings.Repeat(c, n-1) + "…"},
			{strings.Repeat(c, n-1) + "\xff", strings.Repeat(c, n-1) + "\ufffd"},
		}...)
	}
	return all
}

func TestMakeCuts(t *testing.T) { // P9.1
	for _, c := range cuts(200) {
		made(t, api.Link{}, api.Raw{Title: c.s}, api.Entry{Title: c.want})
		made(t, api.Link{}, api.Raw{Title: "\n " + c.s + " \t"}, api.Entry{Title: c.want})
	}
	for _, c := range cuts(4000) {
		made(t, api.Link{}, api.Raw{Body: c.s}, api.Entry{Body: c.want})
	}
	for _, c := range letters {
		row := func(n int) string { return strings.Repeat(c, n) }
		for _, x := range []struct{ s, want string }{
			// Blanks at both ends and in rows don't count in a title.
			{strings.Repeat(" ", 300) + row(200) + strings.Repeat("\n", 300), row(200)},
			{row(100) + strings.Repeat(" ", 300) + row(99), row(100) + " " + row(99)},
			{row(100) + "  " + row(100), row(100) + " " + row(98) + "…"},
			// Blanks where the cut falls.
			{row(198) + " " + row(1), row(198) + " " + row(1)},
			{row(198) + " " + row(2), row(198) + " …"},
			{row(199) + " " + row(1), row(199) + "…"},
			{row(199) + " \n ", row(199)},
			{row(200) + " ", row(200)},
			{row(200) + " " + row(1), row(199) + "…"},
			{row(197) + " " + row(1) + " " + row(1), row(197) + " " + row(1) + "…"},
		} {
			made(t, api.Link{}, api.Raw{Title: x.s}, api.Entry{Title: x.want})
		}
		for _, x := range []struct{ s, want string }{
			// In a body they do.
			{" " + row(3998) + " ", " " + row(3998) + " "},
			{" " + row(3999) + " ", " " + row(3998) + "…"},
			{row(3999) + " ", row(3999) + " "},
			{row(4000) + " ", row(3999) + "…"},
			{row(3998) + "  " + row(1), row(3998) + " …"},
			{strings.Repeat(" ", 4001), strings.Repeat(" ", 3999) + "…"},
			{strings.Repeat("\f", 4001) + row(4000), row(4000)},
		} {
			made(t, api.Link{}, api.Raw{Body: x.s}, api.Entry{Body: x.want})
		}
	}
}

func TestMakeNone(t *testing.T) { // P9.1
	whole := api.Raw{Link: "http://h/", Date: "1970-01-02T00:00:00Z"}
	for _, title := range []string{"", " ", "\t\r\n", "\f", "\x00", " \x01 \uffff\v\ufffe\n"} {
		for _, body := range []string{"", "\x00", "\f\v\x1f", "\uffff\ufffe"} {
			notMade(t, api.Link{}, api.Raw{Title: title, Body: body})
			r := whole
			r.Title, r.Body = title, body
			notMade(t, base(t, "http://h/"), r)
			r.Body = " "
			made(t, api.Link{}, r, api.Entry{Link: "http://h/", Body: " ", When: 86400})
			r.Title, r.Body = "t"+title, body
			made(t, api.Link{}, r, api.Entry{Link: "http://h/", Title: "t", When: 86400})
		}
	}
	notMade(t, api.Link{}, api.Raw{})
}

func TestMakeTimes(t *testing.T) { // P9.1
	const none = 0
	for _, c := range []struct {
		date       string
		atom, mail int
	}{
		{"", none, none},
		{" ", none, none},
		{"nope", none, none},
		{"86400", none, none},
		{"1970-01-02T00:00:00Z", 86400, none},
		{"1970-01-02t00:00:01.5+00:00", 86401, none},
		{"1970-01-02 00:00:00z", 86400, none},
		{" \n\t1970-01-02T00:00:00Z\r\f ", 86400, none},
		{"1970-01-02 \n 00:00:00Z", 86400, none},
		{"1970-01-02T00:00:00 Z", none, none},
		{"1970-01-02T00:00:00Z.", none, none},
		{"\x001970-01-02T00:00:00Z", none, none},
		{"\u00a01970-01-02T00:00:00Z", none, none},
		{"1970-01-02", none, none},
		{"1969-12-31T23:59:59Z", -1, none},
		{"1900-02-28T00:00:00Z", -2203977600, none},
		{"1900-02-29T00:00:00Z", none, none},
		{"0001-01-01T00:00:00+23:59", -62135683140, none},
		{"0000-12-31T00:00:00Z", none, none},
		{"9999-12-31T23:59:60-23:59", 253402387139, none},
		{"Fri, 2 Jan 70 00:00 GMT", none, 86400},
		{"Fri, 02 Jan 1970 00:00:00 GMT", none, 86400},
		{"02 Jan 1970 01:00:00 +0100", none, 86400},
		{" Fri,\n 02\tJan  1970\f00:00:00   GMT\r\n", none, 86400},
		{"Wed, 31 Dec 1969 23:59:59 GMT", none, -1},
		{"1 Jan 69 00:00 GMT", none, -31536000},
		{"1 Jan 49 00:00 GMT", none, 2493072000},
		{"Fri, 02 Jan 1970 00:00:00 gmt", none, none},
		{"Fri, 02 Jan 1970 00:00:00", none, none},
		{"29 Feb 1900 00:00 GMT", none, none},
		{"Fri,02 Jan 1970 00:00:00 GMT", none, none},
	} {
		made(t, api.Link{}, api.Raw{Title: "t", Date: c.date}, api.Entry{Title: "t", When: c.atom})
		made(t, api.Link{}, api.Raw{Title: "t", Date: c.date, Mail: true}, api.Entry{Title: "t", When: c.mail})
	}
}

func TestHash(t *testing.T) { // P9.2
	// Digests of each text's length in eight bytes and its bytes.
	for _, c := range []struct{ title, body, want string }{
		{"", "", "374708fff7719dd5979ec875d56cd2286f6d3cf7ec317a3b25632aab28ec37bb"},
		{"a", "", "6aa98e17c109dd8e2ae23a478ceb48e193c730289ba48d741388a3cc8b38ef4f"},
		{"", "a", "ee9273da54f2dc9e4a125eff796dbbe7ec16507bd075018a68cea4d1dc34ef84"},
		{" a\n", "b \t c", "7de4beab290e6868591b606a579ecace54f8351bdf145c3d67fa6df381741daa"},
	} {
		if got := entry.Hash(api.Entry{Title: c.title, Body: c.body}); got != c.want {
			t.Errorf("Hash of %q, %q: %s, not %s", c.title, c.body, got, c.want)
		}
	}
	alike := [][]api.Entry{
		{{}, {Title: " "}, {Body: "\n\t"}, {Title: "\f", Body: "\r"}, {Link: "http://h/"}, {When: 5}, {Link: "x", When: -5}},
		{{Title: "a b"}, {Title: " a  b "}, {Title: "a\nb"}, {Title: "a\f\r\tb", Body: " "}, {Link: "l", Title: "a b", When: 1}},
		{{Body: "a b"}, {Body: " a  b\n"}, {Title: "\t", Body: "a\tb", When: 7}},
		{{Title: "a", Body: "b"}, {Title: "a ", Body: "b"}, {Title: " a", Body: "\nb\n"}},
		{{Title: "b", Body: "a"}},
		{{Title: "ab"}, {Title: "ab "}},
		{{Body: "ab"}},
		{{Title: "a"}, {Title: "a", Body: "\n"}},
		{{Body: "a"}},
		{{Title: "\xff"}, {Title: "\ufffd"}, {Title: "\xff", Body: "\r"}},
		{{Title: "\xff\xff"}, {Title: "\ufffd\xff"}},
		{{Title: "A b"}},
		{{Title: "a\x00b"}},
		{{Title: "a\x00 b"}},
		{{Title: "a\u00a0b"}},
		{{Title: "a\vb"}},
		{{Title: "\x00"}},
		{{Title: strings.Repeat("a", 200)}},
		{{Title: strings.Repeat("a", 201)}},
		{{Body: strings.Repeat("a", 4000)}},
		{{Body: strings.Repeat("a", 4001)}},
	}
	seen := map[string]int{}
	for i, same := range alike {
		for _, e := range same {
			hash := entry.Hash(e)
			if hash != entry.Hash(same[0]) || hash != hashOracle(e) {
				t.Errorf("Hash of %s: %s", show(e), hash)
			}
			if at, ok := seen[hash]; ok && at != i {
				t.Errorf("%s and %s have one hash", show(e), show(alike[at][0]))
			}
			seen[hash] = i
		}
	}
}

// ahead wants the first entry to stand ahead of the second one, and not the
// other way round.
func ahead(t *testing.T, a, b api.Entry) {
	t.Helper()
	if !entry.Less(a, b) {
		t.Errorf("%s isn't ahead of %s", show(a), show(b))
	}
	if entry.Less(b, a) {
		t.Errorf("%s is ahead of %s", show(b), show(a))
	}
}

func TestLess(t *testing.T) { // P9.2
	const least, greatest = -1 << 63, 1<<63 - 1
	x, y := api.Entry{Title: "x"}, api.Entry{Title: "y"}
	if entry.Hash(x) > entry.Hash(y) {
		x, y = y, x
	}
	with := func(e api.Entry, link string, when int) api.Entry {
		e.Link, e.When = link, when
		return e
	}
	ahead(t, x, y) // by the hash alone
	ahead(t, with(x, "l", 5), with(y, "l", 5))
	ahead(t, api.Entry{Link: "a"}, api.Entry{Link: "b"}) // by the link
	for _, e := range [][2]api.Entry{{x, y}, {y, x}, {x, x}} {
		for _, links := range [][2]string{{"", "a"}, {"a", "b"}, {"a", "aa"}, {"ab", "b"}, {"B", "a"}, {"a", "\xff"}, {"é", "€"}, {"\uffff", "😀"}, {"http://a/", "http://b/"}} {
			ahead(t, with(e[0], links[0], 7), with(e[1], links[1], 7))
		}
		for _, links := range [][2]string{{"a", "b"}, {"b", "a"}, {"a", "a"}} { // by the time
			for _, times := range [][2]int{{2, 1}, {1, 0}, {0, -1}, {-1, -2}, {10, 9}, {greatest, greatest - 1}, {greatest, least}, {0, least}, {least + 1, least}, {greatest, -1}} {
				ahead(t, with(e[0], links[0], times[0]), with(e[1], links[1], times[1]))
			}
		}
	}
	for _, alike := range [][2]api.Entry{
		{{}, {}}, {x, x}, {{Title: "a b"}, {Title: " a  b"}}, {{Body: "a\nb"}, {Body: "a b"}}, {{Title: "\xff"}, {Title: "\ufffd"}}, {with(x, "l", -5), with(x, "l", -5)},
	} {
		if entry.Less(alike[0], alike[1]) || entry.Less(alike[1], alike[0]) {
			t.Errorf("%s, %s: one is ahead", show(alike[0]), show(alike[1]))
		}
	}
}

func TestLessSorts(t *testing.T) { // P9.2
	var all []api.Entry
	for _, when := range []int{3, 0, -3} {
		for _, l := range []string{"", "http://a/", "http://b/"} {
			for _, title := range []string{"", "t", "u", "v"} {
				all = append(all, api.Entry{Link: l, Title: title, Body: "b", When: when})
			}
		}
	}
	for i, a := range all {
		for j, b := range all {
			sameLess(t, a, b)
			if i != j && entry.Less(a, b) == entry.Less(b, a) {
				t.Errorf("%s, %s: none is ahead, or both", show(a), show(b))
			}
			for _, c := range all {
				if entry.Less(a, b) && entry.Less(b, c) && !entry.Less(a, c) {
					t.Errorf("%s, %s, %s: no order", show(a), show(b), show(c))
				}
			}
		}
	}
}

const far = 1 << 40

// whole is a normal entry, of which tests spoil a part.
func whole() api.Entry {
	return api.Entry{Link: "http://h/a?b", Title: "a b", Body: " <p>c</p>\n", When: -5}
}

func TestNormal(t *testing.T) { // P9.3
	for _, e := range normals() {
		if !entry.Normal(e) {
			t.Errorf("Normal(%s) is false", show(e))
		}
	}
	for _, e := range notNormals() {
		if entry.Normal(e) {
			t.Errorf("Normal(%s) is true", show(e))
		}
	}
}

func normals() []api.Entry {
	all := []api.Entry{whole(), {Title: "a"}, {Body: "a"}, {Body: " "}, {Body: "\n"}, {Title: "a", When: far}, {Title: "a", When: -far}, {Body: "…", When: 1 - far}}
	for _, l := range []string{"", "http://h/", "https://h/", "http://h:443/", "http://h/a/b/", "http://h//", "http://h/A%2F", "http://h/?a&b=1", "http://h/??", "http://h/?&", "http://1.2.3.4:65535/~a", "http://h/" + strings.Repeat("x", 2048-9)} {
		e := whole()
		e.Link = l
		all = append(all, e)
	}
	for _, title := range []string{"", "a", "a b c", "é€😀", "\ufffd", "\x7f", "<b>", "\u00a0a\u2003", "\u0085", "…", strings.Repeat("a", 200), strings.Repeat("😀", 199) + "…", "a" + strings.Repeat(" a", 99), strings.Repeat("…", 200)} {
		e := whole()
		e.Title = title
		all = append(all, e)
	}
	for _, body := range []string{"", " ", "\t\r\n", "  a  ", "é€😀\ufffd\x7f", strings.Repeat(" ", 4000), strings.Repeat("😀", 4000), strings.Repeat("a", 3999) + "…"} {
		e := whole()
		e.Body = body
		all = append(all, e)
	}
	for _, when := range []int{0, 1, -1, 86400, far - 1, far, -far} {
		e := whole()
		e.When = when
		all = append(all, e)
	}
	return all
}

// notNormals have each one part that isn't.
func notNormals() []api.Entry {
	all := []api.Entry{{}, {Link: "http://h/"}, {When: 5}, {Link: "http://h/", When: 5}}
	for _, l := range []string{
		" ", "a", "/", "http://h", "HTTP://h/", "http://H/", "http://h:80/", "https://h:443/", "http://h/%41", "http://h/%2f", "http://h/%7e", "http://h/./", "http://h/a/..", "http://h/..", "http://h/%2e", "http://h/?", "http://h/?utm_", "http://h/?a&utm_b", "http://h/?%61", "http://h/#", "http://h/#a", "http://h/?a#b",
		" http://h/", "http://h/ ", "http://h/\n", "http://h/a b", "http://h/é", "http://h/\xff", "http://h/\x00", "http://h/%", "http://h/%4", "ftp://h/", "mailto:a@b", "//h/", "http:///", "http://", "http://h:0/", "http://h:080/", "http://h:65536/", "http://h?a", "http://h/" + strings.Repeat("x", 2049-9), "http://" + strings.Repeat("h", 254) + "/", "http://h/?a#",
	} {
		e := whole()
		e.Link = l
		all = append(all, e)
	}
	for _, title := range []string{" ", " a", "a ", "a  b", "a\tb", "a\nb", "a\rb", "a\fb", "\n", "\na", "a\t", "a\x00b", "\x1f", "\v", "\ufffe", "a\uffff", "\xff", "a\xe2\x82", "\xed\xa0\x80", strings.Repeat("a", 201), strings.Repeat("😀", 201), strings.Repeat("a", 200) + "…", strings.Repeat("a", 200) + "\x00", strings.Repeat("a", 199) + "\xff"} {
		e := whole()
		e.Title = title
		all = append(all, e)
	}
	for _, body := range []string{"\x00", "a\x1fb", "a\f", "\v", "\ufffe", "a\uffff", "\xff", "a\xe2\x82", "\xc0\x80", strings.Repeat("a", 4001), strings.Repeat("😀", 4001), strings.Repeat("a", 4000) + "…", strings.Repeat(" ", 4001), strings.Repeat("a", 3999) + "\xff"} {
		e := whole()
		e.Body = body
		all = append(all, e)
	}
	for _, when := range []int{far + 1, -far - 1, 1 << 41, -1 << 41, 1<<63 - 1, -1 << 63} {
		e := whole()
		e.When = when
		all = append(all, e)
	}
	return all
}

func TestPut(t *testing.T) { // P9.4
	const least, greatest = -1 << 63, 1<<63 - 1
	for _, c := range []struct {
		e    api.Entry
		want string
	}{
		{api.Entry{}, `["","","",0]`},
		{api.Entry{Link: "http://h/", Title: "a b", Body: "\"é<", When: -5}, `["http://h/","a b","\"é\u003c",-5]`},
		{api.Entry{Title: "a"}, `["","a","",0]`},
		{api.Entry{Body: "a"}, `["","","a",0]`},
		{api.Entry{Link: "a"}, `["a","","",0]`},
		{api.Entry{When: 1234567890}, `["","","",1234567890]`},
		{api.Entry{When: least}, `["","","",-9223372036854775808]`},
		{api.Entry{When: greatest}, `["","","",9223372036854775807]`},
		{api.Entry{Link: "\\\"", Title: "\x00\x1f\x7f\n\r\t\f", Body: "<>&/'\u2028\u2029é€😀\U0010ffff\ufffd\uffff"}, `["\\\"","\u0000\u001f\u007f\n\r\t\u000c","\u003c\u003e\u0026/'\u2028\u2029é€😀` + "\U0010ffff\ufffd\uffff" + `",0]`},
		{api.Entry{Link: " a  b ", Title: " ", Body: "[1,2]", When: far + 1}, `[" a  b "," ","[1,2]",1099511627777]`},
		{api.Entry{Title: strings.Repeat("a", 70000)}, `["","` + strings.Repeat("a", 70000) + `","",0]`},
		// No text, no JSON.
		{api.Entry{Link: "\xff"}, ""},
		{api.Entry{Title: "a\xff"}, ""},
		{api.Entry{Body: "\xe2\x82", When: 5}, ""},
		{api.Entry{Title: "a", Body: "\xed\xa0\x80"}, ""},
	} {
		if got := entry.Put(c.e); got != c.want {
			t.Errorf("Put(%s): %.300q, not %.300q", show(c.e), got, c.want)
		}
	}
}

func got(t *testing.T, s string, want api.Entry) {
	t.Helper()
	if e, wrong := entry.Get(s); wrong != api.OK || e != want {
		t.Errorf("Get(%.300q): %s %v, not %s", s, show(e), wrong, show(want))
	}
}

func refused(t *testing.T, s string) {
	t.Helper()
	if e, wrong := entry.Get(s); wrong != api.ErrForm || e != (api.Entry{}) {
		t.Errorf("Get(%.300q): %s %v, not none", s, show(e), wrong)
	}
}

func TestGet(t *testing.T) { // P9.4
	got(t, `["http://h/a?b","a b"," \u003cp\u003ec\u003c/p\u003e\n",-5]`, whole())
	got(t, `["","a","",0]`, api.Entry{Title: "a"})
	got(t, `["","","a",0]`, api.Entry{Body: "a"})
	got(t, `["","é€😀","\"\\\t\u007f\u2028/'",1099511627776]`, api.Entry{Title: "é€😀", Body: "\"\\\t\x7f\u2028/'", When: far})
	got(t, `["","a","",-1099511627776]`, api.Entry{Title: "a", When: -far})
	for _, e := range normals() {
		got(t, entry.Put(e), e)
	}
	// The longest ones.
	for _, c := range append(letters, "\"", "<") {
		e := api.Entry{Link: "http://h/?" + strings.Repeat("&", 2038), Title: strings.Repeat(c, 200), Body: strings.Repeat(c, 4000), When: -far}
		got(t, entry.Put(e), e)
	}
	for _, e := range notNormals() {
		refused(t, entry.Put(e))
	}
}

func TestGetSpellings(t *testing.T) { // P9.4
	for _, s := range []string{
		// blanks, and something behind the end
		` ["","a","",0]`, `["","a","",0] `, `[ "","a","",0]`, `["" ,"a","",0]`, `["", "a","",0]`, "[\"\",\"a\",\"\",\n0]", "[\"\",\"a\",\"\",0\t]", "[\"\",\"a\",\"\",0]\n", "\ufeff[\"\",\"a\",\"\",0]", "[\"\",\"a\",\"\",0]\x00",
		`["","a","",0]["","a","",0]`, `["","a","",0]]`, `["","a","",0],`, `["","a","",0]0`,
		// the number
		`["","a","",-0]`, `["","a","",00]`, `["","a","",01]`, `["","a","",-01]`, `["","a","",+1]`, `["","a","",1.0]`, `["","a","",0.5]`, `["","a","",1e0]`, `["","a","",1E5]`, `["","a","",0e0]`, `["","a","",-]`, `["","a","",]`, `["","a",""]`, `["","a","",1_0]`, `["","a","",0x1]`,
		`["","a","",9223372036854775808]`, `["","a","",-9223372036854775809]`, `["","a","",18446744073709551616]`, `["","a","",18446744073709551617]`, `["","a","",340282366920938463463374607431768211456]`, `["","a","",1099511627777]`, `["","a","",-1099511627777]`, `["","a","",9223372036854775807]`,
		`["","a","",1` + strings.Repeat("0", 1000) + `]`,
		// the texts
		`["","\u0061","",0]`, `["","\/","",0]`, `["","a/\/","",0]`, `["","<","",0]`, `["",">","",0]`, `["","&","",0]`, `["","\u003C","",0]`, `["","\u00e9","",0]`, `["","\ud83d\ude00","",0]`, `["","","\u000a",0]`, `["","","\u000d",0]`, `["","","\u0009",0]`, `["","\"\u0022","",0]`, `["","\u005c","",0]`, "[\"\",\"\x7f\",\"\",0]", "[\"\",\"\u2028\",\"\",0]", `["","","a` + "\n" + `",0]`, `["http:\/\/h\/","a","",0]`, `["http://h/?a&b","a","",0]`, `["","a","\b",0]`, `["","a","\f",0]`, `["","a","\ud83d",0]`, `["","a` + "\xff" + `","",0]`, `['','a','',0]`,
		// more, fewer, others
		``, ` `, `[]`, `[""]`, `["",""]`, `["","a"]`, `["","a",0]`, `["","a","",0,0]`, `["","a","","",0]`, `["","a","",0,""]`, `["","","a","",0]`, `["","a","",0,]`, `[,"","a","",0]`, `["""a","",0]`,
		`[null,"a","",0]`, `["",null,"a",0]`, `["","a",null,0]`, `["","a","",null]`, `["","a","",""]`, `["","a","","0"]`, `["","a","",false]`, `["","a","",true]`, `["","a","",[]]`, `["","a","",[0]]`, `["","a","",{}]`, `[0,"a","",0]`, `["",0,"",0]`, `["","a",0,0]`, `["",1,"a",0]`, `["",true,"a",0]`, `[false,"a","",0]`, `[[],"a","",0]`, `["",["a"],"",0]`, `["","a",{},0]`,
		`null`, `0`, `true`, `""`, `"a"`, `{}`, `{"":"","":"a","":"","":0}`, `{"a":"","b":"a","c":"","d":0}`, `[["","a","",0]]`, `["[\"\",\"a\",\"\",0]"]`, `("","a","",0)`, `"","a","",0`,
		// entries that aren't normal
		`["","","",0]`, `["http://h/","","",0]`, `["http://h","a","",0]`, `["http://H/","a","",0]`, `["a","a","",0]`, `["http://h/#","a","",0]`, `[""," a","",0]`, `["","a\n","",0]`, `["","a\u0000","",0]`, `["","a","\u0000",0]`, `["","` + strings.Repeat("a", 201) + `","",0]`, `["","","` + strings.Repeat("a", 4001) + `",0]`,
		strings.Repeat("[", 25), strings.Repeat("a", 70000), `["","` + strings.Repeat("a", 70000) + `","",0]`, `["","a","` + strings.Repeat(`\u0061`, 4000) + `",0]`,
	} {
		refused(t, s)
		if want, ok := getOracle(s); ok {
			t.Errorf("the oracle takes %.300q: %s", s, show(want))
		}
	}
}

// TestGetEnds has bytes that end at every place, and go on behind the end.
func TestGetEnds(t *testing.T) { // P9.4
	for _, e := range []api.Entry{whole(), {Title: "é€😀\"\\<", Body: "\n\t\u2028", When: far}} {
		s := entry.Put(e)
		got(t, s, e)
		for at := range len(s) {
			refused(t, s[:at])
			refused(t, s[at+1:])
		}
		for c := range 0x100 {
			refused(t, s+string([]byte{byte(c)}))
			refused(t, string([]byte{byte(c)})+s)
		}
	}
}

// overlap says whether two texts share memory.
func overlap(a, b string) bool {
	if a == "" || b == "" {
		return false
	}
	x, y := uintptr(unsafe.Pointer(unsafe.StringData(a))), uintptr(unsafe.Pointer(unsafe.StringData(b)))
	return x < y+uintptr(len(b)) && y < x+uintptr(len(a))
}

func TestAnswersAreNew(t *testing.T) {
	b := api.Link{Scheme: strings.Clone("http"), Host: strings.Clone("host"), Path: strings.Clone("/path"), Query: strings.Clone("query"), HasQuery: true}
	r := api.Raw{Link: strings.Clone("http://host/path"), Title: strings.Clone("title"), Body: strings.Clone("body"), Date: strings.Clone("1970-01-02T00:00:00Z")}
	line := strings.Clone(`["http://host/","title","body",-12]`)
	given := []string{b.Scheme, b.Host, b.Path, b.Query, r.Link, r.Title, r.Body, r.Date, line}
	var answers []string
	for _, l := range []string{r.Link, "", "?", "x", "#"} {
		r.Link = l
		e, _ := entry.Make(b, r)
		answers = append(answers, e.Link, e.Title, e.Body, entry.Put(e), entry.Hash(e))
	}
	e, _ := entry.Get(line)
	answers = append(answers, e.Link, e.Title, e.Body)
	for _, answer := range answers {
		if slices.ContainsFunc(given, func(g string) bool { return overlap(answer, g) }) {
			t.Errorf("%q shares memory with what was handed in", answer)
		}
	}
}

// TestArgumentsStay lends bytes as texts and changes them behind a call: what
// was answered stays, and the call itself had not changed them.
func TestArgumentsStay(t *testing.T) {
	lend := func(s string) ([]byte, string) {
		bytes := []byte(s)
		return bytes, unsafe.String(unsafe.SliceData(bytes), len(bytes))
	}
	texts := []string{" HTTP://h/%7e ", " a  \x00b\xff", "\x00c", " 1970-01-02T00:00:00Z", `["http://h/","a","b",7]`}
	var lent [][]byte
	var given []string
	for _, s := range texts {
		bytes, text := lend(s)
		lent, given = append(lent, bytes), append(given, text)
	}
	e, _ := entry.Make(api.Link{}, api.Raw{Link: given[0], Title: given[1], Body: given[2], Date: given[3]})
	x, _ := entry.Get(given[4])
	for i, bytes := range lent {
		if string(bytes) != texts[i] {
			t.Errorf("%q became %q", texts[i], bytes)
		}
		clear(bytes)
	}
	if e != (api.Entry{Link: "http://h/~", Title: "a b\ufffd", Body: "c", When: 86400}) || x != (api.Entry{Link: "http://h/", Title: "a", Body: "b", When: 7}) {
		t.Errorf("%s %s", show(e), show(x))
	}
}
