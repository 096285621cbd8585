package link_test

import (
	"fmt"
	"math"
	"strings"
	"testing"
	"unsafe"

	"broadsheet/api"
	"broadsheet/link"
)

type pair struct{ s, want string }

// parse wants a text that is a link.
func parse(t *testing.T, s string) api.Link {
	t.Helper()
	l, e := link.Parse(s)
	if e != api.OK {
		t.Fatalf("Parse(%q): %v", s, e)
	}
	return l
}

// takes wants Parse to take a text as that link, and Print to write it as it was.
func takes(t *testing.T, s string, want api.Link) {
	t.Helper()
	l, e := link.Parse(s)
	if l != want || e != api.OK {
		t.Errorf("Parse(%q): %+v %v, not %+v", s, l, e, want)
	}
	if got := link.Print(l); got != s {
		t.Errorf("Print(Parse(%q)): %q", s, got)
	}
}

func refuses(t *testing.T, texts ...string) {
	t.Helper()
	for _, s := range texts {
		if l, e := link.Parse(s); l != (api.Link{}) || e != api.ErrLink {
			t.Errorf("Parse(%q): %+v %v", s, l, e)
		}
	}
}

func TestParse(t *testing.T) { // P4.1
	takes(t, "https://a.b:8443/x?y?z#w", api.Link{Scheme: "https", Host: "a.b", Port: 8443, Path: "/x", Query: "y?z", Fragment: "w", HasQuery: true, HasFragment: true})
	takes(t, "HTTP://Ex.COM:80/a/./b/../%7ec?utm_x=1&y=2#z", api.Link{Scheme: "HTTP", Host: "Ex.COM", Port: 80, Path: "/a/./b/../%7ec", Query: "utm_x=1&y=2", Fragment: "z", HasQuery: true, HasFragment: true})
	takes(t, "http://h//a//", api.Link{Scheme: "http", Host: "h", Path: "//a//"})
	takes(t, "http://h/:@[]!$&'()*+,;=-._~%00%fF", api.Link{Scheme: "http", Host: "h", Path: "/:@[]!$&'()*+,;=-._~%00%fF"})
	takes(t, "http://h/http://g/", api.Link{Scheme: "http", Host: "h", Path: "/http://g/"})
	takes(t, "http://h?http://g/?", api.Link{Scheme: "http", Host: "h", Query: "http://g/?", HasQuery: true})
	refuses(t, "", " ", "a", "/", "//", "//h/", "/a", "?", "#", ":", "://", "://h", "h", "h/", "http", "http:", "http:/", "http://", "http:///", "http:///a",
		"http:h", "http:/h", "http//h", "http:\\\\h", " http://h", "http://h ", "http ://h", "http: //h", "http:// h", "http://h\n", "\nhttp://h", "http://h\x00", "\xffhttp://h", "http://\xff", "http://h/\xff")
}

func TestParseSchemes(t *testing.T) { // P4.1
	for _, word := range []string{"http", "https"} {
		for mask := range 1 << len(word) {
			scheme := []byte(word)
			for i := range scheme {
				if mask>>i&1 == 1 {
					scheme[i] -= 'a' - 'A'
				}
			}
			takes(t, string(scheme)+"://h/", api.Link{Scheme: string(scheme), Host: "h", Path: "/"})
		}
	}
	for _, scheme := range []string{"", "h", "htt", "httpss", "httpx", "xhttp", "ttp", "ftp", "file", "ws", "javascript", "data", "mailto", "feed", "httpſ", "HTTPſ", "http+s", "http.", "hxxp", "feed:http", "http\x00", "http:http", "ｈttp"} {
		refuses(t, scheme+"://h/", scheme+":h", scheme+"://h")
	}
}

func TestParseHosts(t *testing.T) { // P4.1
	for _, host := range []string{"a", "Z", "0", "9", "-", ".", "..", "-.-", "127.0.0.1", "xn--a.B", "a.", ".a", strings.Repeat("a", 252), strings.Repeat("a", 253), strings.Repeat(".", 253)} {
		takes(t, "http://"+host, api.Link{Scheme: "http", Host: host})
		takes(t, "http://"+host+"/", api.Link{Scheme: "http", Host: host, Path: "/"})
		takes(t, "http://"+host+":1", api.Link{Scheme: "http", Host: host, Port: 1})
		takes(t, "http://"+host+"?", api.Link{Scheme: "http", Host: host, HasQuery: true})
		takes(t, "http://"+host+"#", api.Link{Scheme: "http", Host: host, HasFragment: true})
	}
	for _, host := range []string{"", strings.Repeat("a", 254), strings.Repeat("a", 255), strings.Repeat("-", 254), "é", "aé", "a_b", "u@h", "u:p@h", "[::1]", "%41", "a%41", "a b", "a,b", "a\x00", "a\xff", "ſ", "\u212a", "٣"} {
		refuses(t, "http://"+host, "http://"+host+"/", "http://"+host+":1", "http://"+host+":1/a", "http://"+host+"?q", "http://"+host+"#f")
	}
}

func TestParseEveryByteOfAHost(t *testing.T) { // P4.1
	const may = "abcdefghijklmnopqrstuvwxyzABCDEFGHIJKLMNOPQRSTUVWXYZ0123456789-."
	for c := range 0x100 {
		one := string([]byte{byte(c)})
		if strings.Contains(may, one) {
			takes(t, "http://a"+one+"b/", api.Link{Scheme: "http", Host: "a" + one + "b", Path: "/"})
			takes(t, "http://"+one, api.Link{Scheme: "http", Host: one})
			continue
		}
		refuses(t, "http://"+one, "http://"+one+"/")
		if !strings.Contains("/?#", one) {
			refuses(t, "http://a"+one+"b/", "http://a"+one+"b")
		}
	}
}

func TestParsePorts(t *testing.T) { // P4.1
	for _, tail := range []pair{{"", ""}, {"/", "/"}, {"/a:1", "/a:1"}} {
		for port := range 65540 {
			if port > 20 && port < 65530 && port%997 != 0 {
				continue
			}
			s := fmt.Sprintf("http://h:%d%s", port, tail.s)
			if port < 1 || port > 65535 {
				refuses(t, s)
				continue
			}
			takes(t, s, api.Link{Scheme: "http", Host: "h", Port: port, Path: tail.want})
		}
		for _, port := range []string{"", "00", "01", "080", "065535", "00000", "000001", "65536", "65537", "99999", "100000", "655350", "4294967297", "18446744073709551617", strings.Repeat("1", 300), "-1", "+1", " 1", "1 ", "1a", "a", "0x1", "1_0", "1:1", ":1", "1.", "1,", "%31", "٣", "१", "\x00", "1\xff"} {
			refuses(t, "http://h:"+port+tail.s)
		}
	}
	takes(t, "http://h:1?", api.Link{Scheme: "http", Host: "h", Port: 1, HasQuery: true})
	takes(t, "http://h:65535#", api.Link{Scheme: "http", Host: "h", Port: 65535, HasFragment: true})
	refuses(t, "http://:1", "http://:1/", "http://h:?", "http://h:#", "http://h:0?", "http://h:0#")
}

func TestParseTails(t *testing.T) { // P4.1
	base := api.Link{Scheme: "http", Host: "h"}
	for _, path := range []string{"", "/", "//", "/a", "/a/", "/a/b.c"} {
		for _, query := range []string{"", "?", "?q", "??", "?q?r/s&t=u"} {
			for _, fragment := range []string{"", "#", "#f", "#?", "#f?g/h"} {
				want := base
				want.Path = path
				want.Query, want.HasQuery = strings.CutPrefix(query, "?")
				want.Fragment, want.HasFragment = strings.CutPrefix(fragment, "#")
				takes(t, "http://h"+path+query+fragment, want)
				want.Port = 8080
				takes(t, "http://h:8080"+path+query+fragment, want)
			}
		}
	}
	refuses(t, "http://h##", "http://h/##", "http://h/#a#", "http://h/#a#b", "http://h/?#a#b", "http://h/#?#", "http://h/#%23#", "http://h:1a", "http://h:1.", "http://h:1-", "http://h*", "http://h&a", "http://h%20")
}

// TestParseEveryByteOfATail tries each byte in a path, a query and a fragment.
func TestParseEveryByteOfATail(t *testing.T) { // P4.1
	for c := range 0x100 {
		one := string([]byte{byte(c)})
		may := c >= 0x21 && c <= 0x7E && !strings.Contains("\"<>\\^`{|}%", one)
		for place, ahead := range []string{"http://h/a", "http://h/?a", "http://h/#a", "http://h:1/", "http://h?", "http://h#"} {
			for _, behind := range []string{"", "b"} {
				s := ahead + one + behind
				l, e := link.Parse(s)
				taken := may && !(place%3 == 2 && c == '#')
				if taken != (e == api.OK) || !taken && (e != api.ErrLink || l != api.Link{}) || taken && link.Print(l) != s {
					t.Errorf("Parse(%q): %+v %v", s, l, e)
				}
				if !taken || c == '#' || c == '?' {
					continue
				}
				if got := []string{l.Path, l.Query, l.Fragment}[place%3]; !strings.HasSuffix(got, one+behind) {
					t.Errorf("Parse(%q): %+v", s, l)
				}
			}
		}
	}
}

// TestParseEscapes tries % ahead of every two bytes.
func TestParseEscapes(t *testing.T) { // P4.1
	const hex = "0123456789abcdefABCDEF"
	for _, ahead := range []string{"http://h/", "http://h/a?", "http://h#"} {
		refuses(t, ahead+"%", ahead+"a%", ahead+"%%", ahead+"%4", ahead+"a%4", ahead+"%41%", ahead+"%41%4", ahead+"%%41", ahead+"%4%41", ahead+"%é1")
		for first := range 0x100 {
			for second := range 0x100 {
				two := string([]byte{byte(first), byte(second)})
				s := ahead + "%" + two
				want := api.ErrLink
				if strings.Contains(hex, two[:1]) && strings.Contains(hex, two[1:]) {
					want = api.OK
				}
				if l, e := link.Parse(s); e != want || e == api.OK && link.Print(l) != s {
					t.Fatalf("Parse(%q): %+v %v", s, l, e)
				}
			}
		}
	}
	refuses(t, "http://h/%4?1", "http://h/%?41", "http://h/%4#1", "http://h/?%4#1", "http://h/%4/1", "http://h/%4")
}

func TestParseLengths(t *testing.T) { // P4.1
	for _, ahead := range []string{"http://h/", "http://h?", "http://h#", "https://h:65535/?#", "http://" + strings.Repeat("a", 253) + "/"} {
		for _, length := range []int{2047, 2048, 2049, 2050, 4096, 65536} {
			s := ahead + strings.Repeat("a", length-len(ahead))
			l, e := link.Parse(s)
			if length <= 2048 && (e != api.OK || link.Print(l) != s) || length > 2048 && (e != api.ErrLink || l != api.Link{}) {
				t.Errorf("Parse of %d bytes: %v", length, e)
			}
		}
	}
	refuses(t, strings.Repeat("http://h/", 228), strings.Repeat("a", 1<<20), "http://"+strings.Repeat("a", 1<<20), "http://h:"+strings.Repeat("1", 1<<20))
}

func TestPrint(t *testing.T) { // P4.1
	for _, p := range []struct {
		l    api.Link
		want string
	}{
		{api.Link{}, "://"},
		{api.Link{Scheme: "http", Host: "h"}, "http://h"},
		{api.Link{Scheme: "http", Host: "h", Port: 80}, "http://h:80"},
		{api.Link{Port: -1}, "://:-1"},
		{api.Link{Port: 65536}, "://:65536"},
		{api.Link{Port: math.MaxInt}, "://:9223372036854775807"},
		{api.Link{Port: math.MinInt}, "://:-9223372036854775808"},
		{api.Link{Path: "a"}, "://a"},
		{api.Link{Query: "q", Fragment: "f"}, "://"},
		{api.Link{HasQuery: true}, "://?"},
		{api.Link{HasFragment: true}, "://#"},
		{api.Link{Query: "q", HasQuery: true, Fragment: "f"}, "://?q"},
		{api.Link{Query: "q", Fragment: "f", HasFragment: true}, "://#f"},
		{api.Link{Scheme: "é\xff", Host: "/?#", Port: 7, Path: "#", Query: "?", Fragment: "%", HasQuery: true, HasFragment: true}, "é\xff:///?#:7#??#%"},
	} {
		if got := link.Print(p.l); got != p.want {
			t.Errorf("Print(%+v): %q, not %q", p.l, got, p.want)
		}
	}
}

// resolves wants Resolve of a base and of texts to be as told, "" for ErrLink.
func resolves(t *testing.T, base api.Link, pairs []pair) {
	t.Helper()
	for _, p := range pairs {
		l, e := link.Resolve(base, p.s)
		if p.want == "" {
			if l != (api.Link{}) || e != api.ErrLink {
				t.Errorf("Resolve(%+v, %q): %+v %v", base, p.s, l, e)
			}
			continue
		}
		want, wrong := link.Parse(p.want)
		if wrong != api.OK || l != want || e != api.OK {
			t.Errorf("Resolve(%+v, %q): %q %v, not %q", base, p.s, link.Print(l), e, p.want)
		}
	}
}

func TestResolve(t *testing.T) { // P4.2
	resolves(t, parse(t, "http://h/a/b"), []pair{{"../c", "http://h/c"}})
	resolves(t, parse(t, "HTTP://H:8080/a/b/c?q#f"), []pair{
		// texts with a scheme of their own
		{"https://i/..", "https://i/.."}, {"http://i/a/../b/.", "http://i/a/../b/."}, {"HTTPS://I", "HTTPS://I"}, {"http:", ""}, {"http:a", ""}, {"http:/a", ""},
		{"http://", ""}, {"mailto:x", ""}, {"javascript:alert(1)", ""}, {"a:", ""}, {"Z:b/c", ""}, {"a1+-.:b", ""}, {"a b:c", ""}, {"aé:", ""}, {"http://i/ ", ""},
		// texts that only seem to have one
		{"1:b", "HTTP://H:8080/a/b/1:b"}, {":b", "HTTP://H:8080/a/b/:b"}, {"-a:b", "HTTP://H:8080/a/b/-a:b"}, {"a/b:c", "HTTP://H:8080/a/b/a/b:c"},
		{"a?b:c", "HTTP://H:8080/a/b/a?b:c"}, {"a#b:c", "HTTP://H:8080/a/b/a#b:c"}, {"./a:b", "HTTP://H:8080/a/b/a:b"}, {"@:", "HTTP://H:8080/a/b/@:"}, {"[:", "HTTP://H:8080/a/b/[:"},
		{"`:", ""}, {"{:", ""}, {"é:", ""},
		// with two slashes
		{"//g", "HTTP://g"}, {"//g:1/x/..", "HTTP://g:1/"}, {"//g/./a/../b?x/../y#z/../w", "HTTP://g/b?x/../y#z/../w"}, {"//g?q", "HTTP://g?q"}, {"//g#f", "HTTP://g#f"}, {"//", ""}, {"///", ""}, {"///a", ""}, {"//a b", ""}, {"//g:0", ""},
		// with one
		{"/", "HTTP://H:8080/"}, {"/d", "HTTP://H:8080/d"}, {"/d/./e", "HTTP://H:8080/d/e"}, {"/../d/..", "HTTP://H:8080/"}, {"/d//", "HTTP://H:8080/d//"}, {"/d?../x#../y", "HTTP://H:8080/d?../x#../y"}, {"/a:b", "HTTP://H:8080/a:b"}, {"/.", "HTTP://H:8080/"}, {"/ ", ""}, {"/%", ""}, {"/#a#", ""},
		// empty, or the last parts alone
		{"", "HTTP://H:8080/a/b/c?q"}, {"#", "HTTP://H:8080/a/b/c?q#"}, {"#x", "HTTP://H:8080/a/b/c?q#x"}, {"#/../x?y", "HTTP://H:8080/a/b/c?q#/../x?y"}, {"#a:b", "HTTP://H:8080/a/b/c?q#a:b"}, {"##", ""}, {"#a#b", ""}, {"# ", ""},
		{"?", "HTTP://H:8080/a/b/c?"}, {"?z", "HTTP://H:8080/a/b/c?z"}, {"?z#y", "HTTP://H:8080/a/b/c?z#y"}, {"?#", "HTTP://H:8080/a/b/c?#"}, {"??", "HTTP://H:8080/a/b/c??"}, {"?/../x", "HTTP://H:8080/a/b/c?/../x"}, {"?a:b", "HTTP://H:8080/a/b/c?a:b"}, {"?<", ""}, {"?#a#", ""},
		// others
		{"d", "HTTP://H:8080/a/b/d"}, {"d/", "HTTP://H:8080/a/b/d/"}, {".", "HTTP://H:8080/a/b/"}, {"./", "HTTP://H:8080/a/b/"}, {"..", "HTTP://H:8080/a/"}, {"../", "HTTP://H:8080/a/"}, {"../..", "HTTP://H:8080/"}, {"../../../../d", "HTTP://H:8080/d"},
		{"d?x#y", "HTTP://H:8080/a/b/d?x#y"}, {"d//e", "HTTP://H:8080/a/b/d//e"}, {"...", "HTTP://H:8080/a/b/..."}, {".a", "HTTP://H:8080/a/b/.a"}, {"%2e%2e", "HTTP://H:8080/a/b/%2e%2e"}, {"..?../x", "HTTP://H:8080/a/?../x"}, {"d#..", "HTTP://H:8080/a/b/d#.."}, {" ", ""}, {"d e", ""}, {"é", ""}, {"\xff", ""}, {"%4", ""}, {"d#e#f", ""}, {"\\d", ""},
	})
}

func TestResolveByOtherBases(t *testing.T) { // P4.2
	resolves(t, parse(t, "http://h"), []pair{
		{"", "http://h"}, {"#f", "http://h#f"}, {"?q", "http://h?q"}, {"a", "http://h/a"}, {".", "http://h/"}, {"..", "http://h/"}, {"../a", "http://h/a"}, {"./a/.", "http://h/a/"}, {"/a", "http://h/a"}, {"//g", "http://g"}, {"1:2", "http://h/1:2"},
	})
	resolves(t, parse(t, "http://h?q/r#f/g"), []pair{
		{"", "http://h?q/r"}, {"#", "http://h?q/r#"}, {"?", "http://h?"}, {"a", "http://h/a"}, {"/a", "http://h/a"}, {"?x#y", "http://h?x#y"},
	})
	resolves(t, parse(t, "https://h:1/"), []pair{
		{"", "https://h:1/"}, {"a", "https://h:1/a"}, {"//g/..", "https://g/"}, {"..", "https://h:1/"},
	})
	resolves(t, parse(t, "http://h/a/../b/./c?#"), []pair{
		{"", "http://h/a/../b/./c?"}, {"#f", "http://h/a/../b/./c?#f"}, {"?q", "http://h/a/../b/./c?q"}, {"d", "http://h/b/d"}, {"../d", "http://h/d"},
	})
	resolves(t, parse(t, "http://h/a//b/"), []pair{
		{"c", "http://h/a//b/c"}, {"..", "http://h/a//"}, {"../..", "http://h/a/"}, {"../../..", "http://h/"}, {"/", "http://h/"},
	})
	long := strings.Repeat("a", 2000)
	resolves(t, parse(t, "http://h/"+long), []pair{
		{"", "http://h/" + long}, {"b", "http://h/b"}, {"#" + long[:38], "http://h/" + long + "#" + long[:38]}, {"#" + long[:39], ""}, {long, "http://h/" + long}, {"?" + long[:38], "http://h/" + long + "?" + long[:38]}, {"?" + long[:39], ""},
	})
	// The text that is too long counts, not the link that would come of it.
	resolves(t, parse(t, "http://h/"+long+"/"), []pair{
		{"../" + long[:35], "http://h/" + long[:35]}, {"../" + long[:36], ""},
	})
}

// TestResolveByAnyBase has bases that no Parse has answered: their parts are
// written as they are, and what comes of them is parsed.
func TestResolveByAnyBase(t *testing.T) { // P4.2
	resolves(t, api.Link{}, []pair{
		{"", ""}, {"a", ""}, {"/a", ""}, {"//g", ""}, {"#f", ""}, {"?q", ""}, {"http://h/..", "http://h/.."},
	})
	resolves(t, api.Link{Scheme: "ftp", Host: "h", Path: "/a"}, []pair{
		{"", ""}, {"b", ""}, {"//g", ""}, {"https://g", "https://g"},
	})
	resolves(t, api.Link{Scheme: "http", Host: "h", Path: "/a", Query: "q", Fragment: "f"}, []pair{
		{"", "http://h/a"}, {"#x", "http://h/a#x"}, {"b", "http://h/b"},
	})
	resolves(t, api.Link{Scheme: "http", Host: "h", Path: "a"}, []pair{
		{"", "http://ha"}, {"b", "http://h/b"}, {"/b", "http://h/b"}, {"?q", "http://ha?q"},
	})
	resolves(t, api.Link{Scheme: "http", Host: "h", Path: "a/b"}, []pair{
		{"c", "http://ha/c"}, {"../c", "http://ha/c"},
	})
	resolves(t, api.Link{Scheme: "http", Host: "h/x/..", Port: 7, Path: "/a b"}, []pair{
		{"", ""}, {"c", "http://h/x/..:7/c"}, {"/c/..", "http://h/x/..:7/"}, {"//g", "http://g"},
	})
	resolves(t, api.Link{Scheme: "http", Host: "h", Port: 65536, Path: "/"}, []pair{{"", ""}, {"a", ""}, {"/", ""}, {"//g/", "http://g/"}})
	resolves(t, api.Link{Scheme: "http", Host: "h", Port: -1, Path: "/"}, []pair{{"", ""}, {"a", ""}})
	resolves(t, api.Link{Scheme: "http", Host: "h", Path: "/?a/#b", Query: "\xff", HasQuery: true}, []pair{
		{"", ""}, {"c", "http://h/?a/c"}, {"?c", "http://h/?a/#b?c"}, {"#c", ""},
	})
	resolves(t, api.Link{Scheme: "http", Host: "h", Path: "/", Fragment: " ", HasFragment: true}, []pair{{"", "http://h/"}, {"#f", "http://h/#f"}})
}

func TestDots(t *testing.T) { // P4.3
	for _, p := range []pair{
		{"/", "/"}, {"/a", "/a"}, {"/a/", "/a/"}, {"/a/b", "/a/b"},
		// at the front
		{"/.", "/"}, {"/./", "/"}, {"/./a", "/a"}, {"/././a/", "/a/"}, {"/..", "/"}, {"/../", "/"}, {"/../a", "/a"}, {"/../../a/b", "/a/b"}, {"/./../a", "/a"}, {"/.././a", "/a"},
		// in the middle
		{"/a/./b", "/a/b"}, {"/a/././b", "/a/b"}, {"/a/../b", "/b"}, {"/a/b/../c", "/a/c"}, {"/a/b/../../c", "/c"}, {"/a/./../b", "/b"}, {"/a/.././b", "/b"}, {"/a/b/./../c/d", "/a/c/d"},
		// at the end
		{"/a/.", "/a/"}, {"/a/./", "/a/"}, {"/a/..", "/"}, {"/a/../", "/"}, {"/a/b/..", "/a/"}, {"/a/b/../", "/a/"}, {"/a/b/../..", "/"}, {"/a/b/../.", "/a/"}, {"/a/b/./..", "/a/"}, {"/a/b/c/../..", "/a/"},
		// more .. than parts
		{"/a/../..", "/"}, {"/a/../../b", "/b"}, {"/a/../../../b/..", "/"}, {"/../../..", "/"}, {"/a/../../../b/./c", "/b/c"},
		// empty parts are parts
		{"//", "//"}, {"///", "///"}, {"/a//b", "/a//b"}, {"//a", "//a"}, {"//..", "/"}, {"//../a", "/a"}, {"/a//..", "/a/"}, {"/a//../b", "/a/b"}, {"/a//../../b", "/b"}, {"//../", "/"}, {"///..", "//"}, {"///../a", "//a"}, {"//.", "//"}, {"/a//.", "/a//"}, {"/a/.//b", "/a//b"}, {"/a/..//b", "//b"}, {"/..//", "//"},
		// parts that are none of both
		{"/...", "/..."}, {"/.a", "/.a"}, {"/a.", "/a."}, {"/..a/b..", "/..a/b.."}, {"/a../b", "/a../b"}, {"/.../..", "/"}, {"/%2e/%2E%2e/", "/%2e/%2E%2e/"}, {"/ ./. /", "/ ./. /"},
		// paths without a slash at the front
		{"", ""}, {".", "."}, {"..", ".."}, {"a", "a"}, {"a/../b", "a/../b"}, {"./a", "./a"}, {"../a/.", "../a/."}, {"\\../", "\\../"}, {"?/..", "?/.."},
		// bytes that no link has
		{"/\xff/../é/\x00/.", "/é/\x00/"}, {"/a?b/..", "/"}, {"/\xff/./", "/\xff/"},
	} {
		if got := link.Dots(p.s); got != p.want {
			t.Errorf("Dots(%q): %q, not %q", p.s, got, p.want)
		}
	}
}

func TestCanon(t *testing.T) { // P4.4
	for _, p := range []pair{
		{"HTTP://Ex.COM:80/a/./b/../%7ec?utm_x=1&y=2#z", "http://ex.com/a/~c?y=2"},
		{"http://h/", "http://h/"}, {"http://h", "http://h/"}, {"http://h?q", "http://h/?q"}, {"http://h#f", "http://h/"},
		{"HTTPS://ABCDEFGHIJKLMNOPQRSTUVWXYZ-0.9/ABC?DEF#GHI", "https://abcdefghijklmnopqrstuvwxyz-0.9/ABC?DEF"},
		// ports
		{"http://h:80", "http://h/"}, {"http://h:443", "http://h:443/"}, {"https://h:443", "https://h/"}, {"https://h:80", "https://h:80/"}, {"HTTP://h:80/", "http://h/"}, {"hTTpS://h:443/", "https://h/"}, {"HTTP://h:443/", "http://h:443/"}, {"HTTPS://h:80/", "https://h:80/"}, {"http://h:8080", "http://h:8080/"}, {"http://h:81", "http://h:81/"}, {"https://h:444", "https://h:444/"}, {"http://h:1", "http://h:1/"}, {"http://h:65535", "http://h:65535/"},
		// paths
		{"http://h/%7e%7E%2d%2D%2e%2E%5f%5F%41%5a%61%7A%30%39", "http://h/~~--..__AZaz09"},
		{"http://h/%2f%3f%23%25%20%c3%a9%Ff%00%26%40%5b%60%7b", "http://h/%2F%3F%23%25%20%C3%A9%FF%00%26%40%5B%60%7B"},
		{"http://h/%2541%25%34%31%2525", "http://h/%2541%2541%2525"}, {"http://h/%2e/%2E%2e/a/%2e.", "http://h/"}, {"http://h/a/%2e", "http://h/a/"}, {"http://h/a%2f../b", "http://h/a%2F../b"}, {"http://h/a%2f..%2fb", "http://h/a%2F..%2Fb"},
		{"http://h/a/../..", "http://h/"}, {"http://h//a//../", "http://h//a/"}, {"http://h/!$&'()*+,;=:@[]", "http://h/!$&'()*+,;=:@[]"},
		// queries
		{"http://h/?", "http://h/"}, {"http://h?", "http://h/"}, {"http://h/?#", "http://h/"}, {"http://h/?%7e%2f%C3%a9", "http://h/?~%2F%C3%A9"}, {"http://h/?a/../b/.", "http://h/?a/../b/."}, {"http://h/?%2e%2e/./..", "http://h/?.././.."}, {"http://h/??%3f", "http://h/??%3F"},
		{"http://h/?utm_", "http://h/"}, {"http://h/?utm_a=1", "http://h/"}, {"http://h/?utm_a&b", "http://h/?b"}, {"http://h/?a&utm_b&c", "http://h/?a&c"}, {"http://h/?a&utm_b", "http://h/?a"}, {"http://h/?utm_a&utm_b", "http://h/"}, {"http://h/?utm_a&b&utm_c&d&utm_e", "http://h/?b&d"},
		{"http://h/?&", "http://h/?&"}, {"http://h/?a&", "http://h/?a&"}, {"http://h/?&a", "http://h/?&a"}, {"http://h/?a&&b", "http://h/?a&&b"}, {"http://h/?&utm_b=1&c", "http://h/?&c"}, {"http://h/?&utm_a", "http://h/"}, {"http://h/?utm_a&", "http://h/"}, {"http://h/?&utm_a&", "http://h/?&"},
		{"http://h/?utm&utm-a&UTM_a&Utm_a&autm_b&a=utm_b&=utm_c", "http://h/?utm&utm-a&UTM_a&Utm_a&autm_b&a=utm_b&=utm_c"}, {"http://h/?%75tm_a&u%74%6D%5fb&c", "http://h/?c"}, {"http://h/?a%26utm_b", "http://h/?a%26utm_b"}, {"http://h/?%26utm_b", "http://h/?%26utm_b"}, {"http://h/?a;utm_b", "http://h/?a;utm_b"}, {"http://h/?utm_a=b;c=d&e", "http://h/?e"}, {"http://h/utm_a&b", "http://h/utm_a&b"},
		// fragments
		{"http://h/#", "http://h/"}, {"http://h/?a#utm_b", "http://h/?a"}, {"http://h/a#%7e", "http://h/a"},
	} {
		l := parse(t, p.s)
		got := link.Canon(l)
		if got != parse(t, p.want) {
			t.Errorf("Canon(%q): %+v, not %q", p.s, got, p.want)
		}
		if again := link.Canon(got); again != got {
			t.Errorf("Canon(Canon(%q)): %+v, not %+v", p.s, again, got)
		}
	}
}

// TestCanonOfEveryByte writes each byte by its number, with digits in either case.
func TestCanonOfEveryByte(t *testing.T) { // P4.4
	const left = "abcdefghijklmnopqrstuvwxyzABCDEFGHIJKLMNOPQRSTUVWXYZ0123456789-._~"
	for c := range 0x100 {
		one := string([]byte{byte(c)})
		want := fmt.Sprintf("%%%02X", c)
		if strings.Contains(left, one) {
			want = one
		}
		for _, form := range []string{"%%%x%x", "%%%X%X", "%%%X%x", "%%%x%X"} {
			escape := fmt.Sprintf(form, c>>4, c&0xF)
			got := link.Canon(parse(t, "http://h/a"+escape+"b?c"+escape+"d"))
			if got.Path != "/a"+want+"b" || got.Query != "c"+want+"d" {
				t.Errorf("Canon of %s: %+v", escape, got)
			}
		}
	}
}

func TestCanonOfAnyLink(t *testing.T) { // P4.4
	for _, p := range []struct{ l, want api.Link }{
		{api.Link{}, api.Link{Path: "/"}},
		{api.Link{Scheme: "É:Z", Host: "[A]É\xff\u212a", Port: 80}, api.Link{Scheme: "É:z", Host: "[a]É\xff\u212a", Port: 80, Path: "/"}},
		{api.Link{Scheme: "ftp", Port: 80, Path: "/"}, api.Link{Scheme: "ftp", Port: 80, Path: "/"}},
		{api.Link{Scheme: "httpſ", Port: 443, Path: "/"}, api.Link{Scheme: "httpſ", Port: 443, Path: "/"}},
		{api.Link{Scheme: "http", Port: -80, Path: "/"}, api.Link{Scheme: "http", Port: -80, Path: "/"}},
		{api.Link{Scheme: "HTTPS", Port: math.MinInt, Path: "/"}, api.Link{Scheme: "https", Port: math.MinInt, Path: "/"}},
		{api.Link{Path: "a/../%7e"}, api.Link{Path: "a/../~"}},
		{api.Link{Path: "%2Fa/.."}, api.Link{Path: "%2Fa/.."}},
		{api.Link{Path: "/%"}, api.Link{Path: "/%"}},
		{api.Link{Path: "/%4/%g1/%1g/%%/% 41/%é"}, api.Link{Path: "/%4/%g1/%1g/%%/% 41/%é"}},
		{api.Link{Path: "/\xff/\x00 é/../%ff"}, api.Link{Path: "/\xff/%FF"}},
		{api.Link{Path: "/%2e%2E?/..#"}, api.Link{Path: "/..?/..#"}},
		{api.Link{Query: "utm_a&b%7e"}, api.Link{Path: "/", Query: "b~"}},
		{api.Link{Query: "utm_a"}, api.Link{Path: "/"}},
		{api.Link{HasQuery: true, Query: "a%&%4&#"}, api.Link{Path: "/", HasQuery: true, Query: "a%&%4&#"}},
		{api.Link{Fragment: "f"}, api.Link{Path: "/"}},
		{api.Link{HasFragment: true}, api.Link{Path: "/"}},
	} {
		got := link.Canon(p.l)
		if got != p.want {
			t.Errorf("Canon(%+v): %+v, not %+v", p.l, got, p.want)
		}
		if again := link.Canon(got); again != got {
			t.Errorf("Canon(Canon(%+v)): %+v, not %+v", p.l, again, got)
		}
	}
}

// TestCanonOfLooseEscapes has % whose digits come only of others behind them:
// no link that was parsed has such a one. They too have one form alone.
func TestCanonOfLooseEscapes(t *testing.T) { // P4.4
	for _, p := range []pair{
		{"%%34%31", "A"}, {"%4%31", "A"}, {"%%341", "A"}, {"%%%34%31", "%A"}, {"%%%33%34%31", "A"}, {"%%32%66", "%2F"}, {"%%66%46", "%FF"}, {"%%35%46", "_"},
		{"%%2e", "%."}, {"%%32e%%32E", ".."}, {"%%%32%65", "%."}, {"%%32%354", "%254"}, {"%75%%374m%%35f", "utm_"},
	} {
		l := api.Link{Path: "/a" + p.s, Query: "a" + p.s, HasQuery: true}
		got := link.Canon(l)
		if got != (api.Link{Path: "/a" + p.want, Query: "a" + p.want, HasQuery: true}) {
			t.Errorf("Canon(%+v): %+v", l, got)
		}
		if again := link.Canon(got); again != got {
			t.Errorf("Canon(Canon(%+v)): %+v, not %+v", l, again, got)
		}
	}
}

func TestSafe(t *testing.T) { // P4.5
	long := strings.Repeat("a", 300)
	for _, s := range []string{
		"http://h", "HTTPS://H:1/?#", "http://h/%41", "http://h/" + strings.Repeat("a", 2039),
		"mailto:a", "mailto:A.b@c", "mailto:aZ09@._+-", "mailto:@", "mailto:-", "MAILTO:a", "MailTo:a", "mAILtO:@@", "mailto:" + long[:199], "mailto:" + long[:200], "MAILTO:" + long[:200],
	} {
		if !link.Safe(s) {
			t.Errorf("Safe(%q): false", s)
		}
	}
	for _, s := range []string{
		"", "a", "#", "/", "/a", "//h", "?q", "http:", "http://", "http://h ", "http://h/%4", "ftp://h/", "javascript:alert(1)", "JavaScript:x", "data:,a", "vbscript:x", "http://h/" + strings.Repeat("a", 2040),
		"mailto", "mailto:", "MAILTO:", "mailt:a", "mailto a", "mailto;a", " mailto:a", "mailto:a ", "mailto: a", "mailto:\n", "xmailto:a", "mailto:" + long[:201], "mailto:" + long, "mailto:a?b", "mailto:a%40b", "mailto:a,b", "mailto:a:b", "mailto:a/b", "mailto:<a>", "mailto:a&b", "mailto:a'b", "mailto:é", "mailto:\xff", "mailto:a\x00", "mailto://a", "mailto:mailto:a", "maılto:a", "mailto：a", "mail", strings.Repeat("mailto:", 1<<16),
	} {
		if link.Safe(s) {
			t.Errorf("Safe(%q): true", s)
		}
	}
	const may = "abcdefghijklmnopqrstuvwxyzABCDEFGHIJKLMNOPQRSTUVWXYZ0123456789@._+-"
	for c := range 0x100 {
		one := string([]byte{byte(c)})
		for _, s := range []string{"mailto:" + one, "mailto:a" + one, "MAILTO:" + one + "b", "mailto:a" + one + "b"} {
			if link.Safe(s) != strings.Contains(may, one) {
				t.Errorf("Safe(%q): %v", s, link.Safe(s))
			}
		}
	}
}

func TestLongTexts(t *testing.T) {
	const n = 1 << 20
	for _, p := range []pair{
		{strings.Repeat("/a", n), strings.Repeat("/a", n)},
		{strings.Repeat("/a/..", n), "/"},
		{strings.Repeat("/a", n) + strings.Repeat("/..", n), "/"},
		{strings.Repeat("/..", n), "/"},
		{strings.Repeat("/", n), strings.Repeat("/", n)},
		{strings.Repeat("/.", n) + "/" + strings.Repeat("a", n) + "/..", "/"},
	} {
		if got := link.Dots(p.s); got != p.want {
			t.Errorf("Dots of %d bytes: %d bytes", len(p.s), len(got))
		}
	}
	l := api.Link{Scheme: strings.Repeat("A", n), Host: strings.Repeat("B", n), Path: "/" + strings.Repeat("%7e", n), Query: strings.Repeat("utm_a&", n) + "b", HasQuery: true}
	got := link.Canon(l)
	if got != (api.Link{Scheme: strings.Repeat("a", n), Host: strings.Repeat("b", n), Path: "/" + strings.Repeat("~", n), Query: "b", HasQuery: true}) {
		t.Errorf("Canon of long parts is another")
	}
	// Each byte that comes of a % completes another one ahead of it.
	if got := link.Canon(api.Link{Path: strings.Repeat("%", n) + strings.Repeat("41", n)}).Path; len(got) > 3*n {
		t.Errorf("Canon of many loose %%: %d bytes", len(got))
	}
	if _, e := link.Resolve(l, strings.Repeat("../", n)); e != api.ErrLink {
		t.Errorf("Resolve of long texts: %v", e)
	}
	if got := link.Print(l); len(got) != 2*n+3+1+3*n+1+6*n+1 {
		t.Errorf("Print of long parts: %d bytes", len(got))
	}
}

// overlap says whether two texts share memory.
func overlap(a, b string) bool {
	if a == "" || b == "" {
		return false
	}
	x, y := uintptr(unsafe.Pointer(unsafe.StringData(a))), uintptr(unsafe.Pointer(unsafe.StringData(b)))
	return x < y+uintptr(len(b)) && y < x+uintptr(len(a))
}

func TestAnswersAreNew(t *testing.T) {
	s := strings.Clone("http://host:81/path?query#fragment")
	base := api.Link{Scheme: strings.Clone("http"), Host: strings.Clone("host"), Path: strings.Clone("/path"), Query: strings.Clone("query"), HasQuery: true}
	whole := api.Link{Path: strings.Clone("whole")}
	resolved, _ := link.Resolve(base, s)
	beside, _ := link.Resolve(base, s[len(s)-9:])
	given := []string{s, base.Scheme, base.Host, base.Path, base.Query, whole.Path}
	var answers []string
	for _, l := range []api.Link{parse(t, s), resolved, beside, link.Canon(base), link.Canon(whole)} {
		answers = append(answers, l.Scheme, l.Host, l.Path, l.Query, l.Fragment)
	}
	answers = append(answers, link.Dots(base.Path), link.Dots(whole.Path), link.Print(base), link.Print(whole))
	for _, answer := range answers {
		for _, g := range given {
			if overlap(answer, g) {
				t.Errorf("%q shares memory with %q", answer, g)
			}
		}
	}
}
