package link_test

import (
	"math/rand"
	"net/url"
	"regexp"
	"strconv"
	"strings"
	"testing"

	"broadsheet/api"
	"broadsheet/link"
)

// formPattern is the chapter's form, but for the greatest port and the length.
var formPattern = func() *regexp.Regexp {
	const (
		escape   = `%[0-9A-Fa-f][0-9A-Fa-f]`
		path     = `(?:[!$&-;=@-\[\]_a-z~]|` + escape + `)`
		fragment = `(?:[!$&-;=@-\[\]_a-z~?]|` + escape + `)`
	)
	return regexp.MustCompile(`\A([hH][tT][tT][pP][sS]?)://([-A-Za-z0-9.]{1,253})(?::([1-9][0-9]{0,4}))?` +
		`((?:/` + path + `*)?)(?:(\?)(` + fragment + `*))?(?:(#)(` + fragment + `*))?\z`)
}()

func parseOracle(s string) (api.Link, api.Errno) {
	found := formPattern.FindStringSubmatch(s)
	if found == nil || len(s) > 2048 {
		return api.Link{}, api.ErrLink
	}
	port, _ := strconv.Atoi("0" + found[3])
	if port > 65535 {
		return api.Link{}, api.ErrLink
	}
	return api.Link{
		Scheme: found[1], Host: found[2], Port: port, Path: found[4],
		Query: found[6], HasQuery: found[5] != "", Fragment: found[8], HasFragment: found[7] != "",
	}, api.OK
}

// dotsOracle is how RFC 3986 (5.2.4) leaves dots out, from text to text.
func dotsOracle(path string) string {
	if path == "" || path[0] != '/' {
		return path
	}
	in, out := path, ""
	for in != "" {
		switch {
		case strings.HasPrefix(in, "/./"):
			in = in[2:]
		case in == "/.":
			in = "/"
		case strings.HasPrefix(in, "/../"), in == "/..":
			in = "/" + strings.TrimPrefix(in[3:], "/")
			out = out[:max(0, strings.LastIndex(out, "/"))]
		default:
			end := strings.Index(in[1:], "/") + 1
			if end == 0 {
				end = len(in)
			}
			in, out = in[end:], out+in[:end]
		}
	}
	return out
}

// textPattern takes a text apart as RFC 3986 (appendix B) does.
var textPattern = regexp.MustCompile(`(?s)\A(?:([A-Za-z][^:/?#]*):)?(//[^/?#]*)?([^?#]*)(\?[^#]*)?(#.*)?\z`)

// resolveOracle puts the parts together as RFC 3986 (5.2.2) does, but leaves
// dots in a text that has a scheme of its own.
func resolveOracle(base api.Link, s string) (api.Link, api.Errno) {
	parts := textPattern.FindStringSubmatch(s)
	if parts[1] != "" {
		return parseOracle(s)
	}
	authority := "//" + base.Host
	if base.Port != 0 {
		authority += ":" + strconv.Itoa(base.Port)
	}
	path, query, dotted := parts[3], parts[4], true
	switch {
	case parts[2] != "":
		authority = parts[2]
	case strings.HasPrefix(path, "/"):
	case path != "":
		path = base.Path[:strings.LastIndex(base.Path, "/")+1] + path
		if !strings.Contains(base.Path, "/") {
			path = "/" + path
		}
	default:
		path, dotted = base.Path, false
		if query == "" && base.HasQuery {
			query = "?" + base.Query
		}
	}
	l, e := parseOracle(base.Scheme + ":" + authority + path + query + parts[5])
	if dotted {
		l.Path = dotsOracle(l.Path)
	}
	return l, e
}

var escapePattern = regexp.MustCompile(`%[0-9A-Fa-f]{2}`)

// unescapeOracle replaces until nothing more is to be replaced.
func unescapeOracle(s string) string {
	for {
		next := escapePattern.ReplaceAllStringFunc(s, func(escape string) string {
			n, _ := strconv.ParseUint(escape[1:], 16, 8)
			c := string([]byte{byte(n)})
			if regexp.MustCompile(`\A[-A-Za-z0-9._~]\z`).MatchString(c) {
				return c
			}
			return strings.ToUpper(escape)
		})
		if next == s {
			return s
		}
		s = next
	}
}

var capitalPattern = regexp.MustCompile(`[A-Z]`)

var markPattern = regexp.MustCompile(`(?s)(\A|&)utm_[^&]*`)

func canonOracle(l api.Link) api.Link {
	var out api.Link
	out.Scheme = capitalPattern.ReplaceAllStringFunc(l.Scheme, strings.ToLower)
	out.Host = capitalPattern.ReplaceAllStringFunc(l.Host, strings.ToLower)
	switch out.Scheme + ":" + strconv.Itoa(l.Port) {
	case "http:80", "https:443":
	default:
		out.Port = l.Port
	}
	out.Path = dotsOracle(unescapeOracle(l.Path))
	if out.Path == "" {
		out.Path = "/"
	}
	query := unescapeOracle(l.Query)
	left := markPattern.ReplaceAllString(query, "")
	if strings.HasPrefix(query, "utm_") {
		left = strings.TrimPrefix(left, "&")
	}
	out.Query, out.HasQuery = left, l.HasQuery && left != ""
	return out
}

var mailPattern = regexp.MustCompile(`\A[mM][aA][iI][lL][tT][oO]:[-A-Za-z0-9@._+]{1,200}\z`)

// sameParse holds Parse, Print and Safe against the patterns.
func sameParse(t *testing.T, s string) (api.Link, bool) {
	t.Helper()
	want, wrong := parseOracle(s)
	l, e := link.Parse(s)
	if l != want || e != wrong {
		t.Fatalf("Parse(%q): %+v %v, not %+v %v", s, l, e, want, wrong)
	}
	if e == api.OK && link.Print(l) != s {
		t.Fatalf("Print(Parse(%q)): %q", s, link.Print(l))
	}
	if safe := e == api.OK || mailPattern.MatchString(s); link.Safe(s) != safe {
		t.Fatalf("Safe(%q): %v", s, !safe)
	}
	return l, e == api.OK
}

func sameCanon(t *testing.T, l api.Link) {
	t.Helper()
	want := canonOracle(l)
	got := link.Canon(l)
	if got != want {
		t.Fatalf("Canon(%+v): %+v, not %+v", l, got, want)
	}
	if again := link.Canon(got); again != got {
		t.Fatalf("Canon(Canon(%+v)): %+v, not %+v", l, again, got)
	}
}

func sameResolve(t *testing.T, base api.Link, s string) {
	t.Helper()
	want, wrong := resolveOracle(base, s)
	if l, e := link.Resolve(base, s); l != want || e != wrong {
		t.Fatalf("Resolve(%+v, %q): %+v %v, not %+v %v", base, s, l, e, want, wrong)
	}
}

func sameDots(t *testing.T, path string) {
	t.Helper()
	got := link.Dots(path)
	if want := dotsOracle(path); got != want {
		t.Fatalf("Dots(%q): %q, not %q", path, got, want)
	}
	if again := link.Dots(got); again != got {
		t.Fatalf("Dots(Dots(%q)): %q, not %q", path, again, got)
	}
}

// rows tells every row of up to most of the pieces.
func rows(pieces []string, most int, tell func(string)) {
	tell("")
	if most == 0 {
		return
	}
	for _, p := range pieces {
		rows(pieces, most-1, func(row string) { tell(p + row) })
	}
}

// TestNeighbours puts each byte into, ahead of and in the place of each byte of
// some texts, and leaves each one out.
func TestNeighbours(t *testing.T) { // P4.1, P4.4, P4.5
	for _, s := range []string{"https://a.B-0:8443/x%7e/..?y?z&utm_a#w%2F", "http://h:80", "HTTP://h#", "MailTo:a@B.c_d+e-f", "http://h/?#"} {
		for at := range len(s) {
			sameParse(t, s[:at]+s[at+1:])
			sameParse(t, s[:at])
			for c := range 0x100 {
				one := string([]byte{byte(c)})
				for _, near := range []string{s[:at] + one + s[at+1:], s[:at] + one + s[at:]} {
					if l, ok := sameParse(t, near); ok {
						sameCanon(t, l)
					}
				}
			}
		}
	}
}

func TestRowsOfParse(t *testing.T) { // P4.1, P4.4, P4.5
	rows([]string{"http", "S", ":", "//", "h", "80", "/", "?", "#", "%7", "e"}, 5, func(row string) {
		sameParse(t, row)
	})
	rows([]string{":", "443", "0", "/", "?", "#", "%", "4", "1", "..", "&utm_", "a"}, 4, func(row string) {
		for _, ahead := range []string{"http://h", "HTTPS://h:443/"} {
			if l, ok := sameParse(t, ahead+row); ok {
				sameCanon(t, l)
			}
		}
	})
}

func TestRowsOfDots(t *testing.T) { // P4.3
	rows([]string{"/", ".", "a"}, 10, func(row string) {
		sameDots(t, row)
	})
	rows([]string{"/", "/.", "/..", "/a", "/...", "/b"}, 6, func(row string) {
		sameDots(t, row)
	})
}

func TestRowsOfResolve(t *testing.T) { // P4.2
	bases := []api.Link{
		parse(t, "http://h"), parse(t, "HTTPS://h:1/"), parse(t, "http://h/a/b?q#f"), parse(t, "http://h//a/../b/?q/r#"), parse(t, "http://h?#f/g"),
		{}, {Scheme: "http", Host: "h", Path: "a"}, {Scheme: "http", Host: "h", Path: "a/b", Query: "q"}, {Scheme: "http", Port: 5}, {Scheme: "ftp", Host: "h", Path: "/"},
	}
	rows([]string{"/", "..", ".", ":", "?", "#", "a", "http://g", "1", " "}, 4, func(row string) {
		for _, base := range bases {
			sameResolve(t, base, row)
		}
	})
}

func TestRowsOfCanon(t *testing.T) { // P4.4
	rows([]string{"%", "4", "1", "2", "e", "F", "/", "."}, 5, func(row string) {
		sameCanon(t, api.Link{Path: "/" + row, Query: row, HasQuery: true})
		sameCanon(t, api.Link{Path: row})
	})
	rows([]string{"&", "utm_", "%75tm_", "a", "=", "%26"}, 6, func(row string) {
		sameCanon(t, api.Link{Query: row, HasQuery: true})
	})
}

// TestResolveAsTheLibrary holds Resolve against the library's where both say
// the same: paths without empty parts, and links in small letters.
func TestResolveAsTheLibrary(t *testing.T) { // P4.2
	for _, text := range []string{"http://h/", "http://h/a", "https://h:8080/a/b/c?q#f", "http://h/a/b/?q"} {
		base := parse(t, text)
		library, err := url.Parse(text)
		if err != nil {
			t.Fatal(err)
		}
		rows([]string{"../", "./", "a/", "b", ".", "..", "?x", "#y", "/c"}, 4, func(row string) {
			reference, err := url.Parse(row)
			if err != nil || strings.Contains(reference.Path, "//") || strings.Contains(reference.Fragment, "#") {
				return
			}
			want := library.ResolveReference(reference)
			if row == "" {
				want.Fragment = "" // the library keeps the base's
			}
			if l, e := link.Resolve(base, row); link.Print(l) != want.String() || e != api.OK {
				t.Fatalf("Resolve(%q, %q): %q %v, not %q", text, row, link.Print(l), e, want)
			}
		})
	}
}

// TestRandomLinks tries links of random parts, most of which no Parse has answered.
func TestRandomLinks(t *testing.T) { // P4.1 to P4.5
	random := rand.New(rand.NewSource(4))
	pieces := []string{"http", "HTTPS", "://", ":", "/", "//", "..", ".", "a", "Z", "0", "80", "443", "%", "%2e", "%7E", "%fF", "%4", "?", "#", "&", "utm_", "=", "é", "\xff", "\x00", " ", "mailto:", "@", "K"}
	text := func() string {
		var b strings.Builder
		for range random.Intn(8) {
			b.WriteString(pieces[random.Intn(len(pieces))])
		}
		return b.String()
	}
	schemes := []string{"http", "HTTPS", "Http", "", "ftp"}
	ports := []int{0, 0, 80, 443, 1, 65535, 65536, -1, 1 << 62}
	for range 20000 {
		l := api.Link{Scheme: schemes[random.Intn(len(schemes))], Host: text(), Port: ports[random.Intn(len(ports))], Path: "/" + text(), Query: text(), Fragment: text(), HasQuery: random.Intn(2) == 0, HasFragment: random.Intn(2) == 0}
		if random.Intn(2) == 0 {
			l.Host = "h"
		}
		if random.Intn(4) == 0 {
			l.Path = text()
		}
		s := text()
		sameParse(t, link.Print(l))
		sameParse(t, s)
		sameParse(t, "http://h/"+s)
		sameDots(t, l.Path)
		sameResolve(t, l, s)
		sameCanon(t, l)
	}
}

func FuzzCalls(f *testing.F) { // P4.1 to P4.5
	f.Add("http", "h", 80, "/a/./b/../%7ec", "utm_x=1&y=2", "z", true, true, "../c")
	f.Add("HTTPS", "A.b", 443, "", "", "", false, false, "mailto:a@b")
	f.Add("", "%", -1, "a/..", "%%34%31", "\xff", true, false, "//g/..")
	f.Fuzz(func(t *testing.T, scheme, host string, port int, path, query, fragment string, hasQuery, hasFragment bool, s string) {
		l := api.Link{Scheme: scheme, Host: host, Port: port, Path: path, Query: query, Fragment: fragment, HasQuery: hasQuery, HasFragment: hasFragment}
		if parsed, ok := sameParse(t, s); ok {
			sameCanon(t, parsed)
		}
		sameParse(t, link.Print(l))
		sameDots(t, path)
		sameResolve(t, l, s)
		sameCanon(t, l)
	})
}
