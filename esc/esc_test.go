package esc_test

import (
	"fmt"
	"math/rand"
	"regexp"
	"strconv"
	"strings"
	"testing"
	"unicode/utf8"
	"unsafe"

	"broadsheet/api"
	"broadsheet/esc"
	"broadsheet/utf"
)

const bad = "\xef\xbf\xbd" // the text of FFFD, in bytes

// badTexts are no texts.
var badTexts = []string{
	"\xff", "a\xffb", "\x80", "\xc0\x80", "\xc1\xbf", "\xe2\x82", "\xe0\x9f\xbf", "\xed\xa0\x80",
	"\xed\xbf\xbf", "\xf0\x8f\xbf\xbf", "\xf4\x90\x80\x80", "\xf8\x88\x80\x80\x80", "\xff&amp;",
}

type pair struct{ s, want string }

func check(t *testing.T, name string, call func(string) string, pairs []pair) {
	t.Helper()
	for _, p := range pairs {
		if got := call(p.s); got != p.want {
			t.Errorf("%s(%q): %q, not %q", name, p.s, got, p.want)
		}
	}
}

func TestHtml(t *testing.T) { // P2.1
	check(t, "Html", esc.Html, []pair{
		{"", ""},
		{"a b", "a b"},
		{"&", "&amp;"},
		{"<", "&lt;"},
		{">", "&gt;"},
		{"\"", "&quot;"},
		{"'", "&#39;"},
		{"<a b='1'>", "&lt;a b=&#39;1&#39;&gt;"},
		{"a&&b", "a&amp;&amp;b"},
		{"&amp;", "&amp;amp;"},
		{"&#39;", "&amp;#39;"},
		{"%`=/\\;", "%`=/\\;"},
		{"é€😀\u2028\u00a0\x7f", "é€😀\u2028\u00a0\x7f"},
		{"\t\n\r ", "\t\n\r "},
		{"\x00\x08\x0b\x0c\x0e\x1f\ufffe\uffff", ""},
		{"<\x00>", "&lt;&gt;"},
		{"\xff<\xe2\x82", bad + "&lt;" + bad + bad},
		{"\xe2<\x82", bad + "&lt;" + bad},
	})
}

func TestHtmlOfEveryPoint(t *testing.T) { // P2.1, P2.5
	other := map[rune]string{'&': "&amp;", '<': "&lt;", '>': "&gt;", '"': "&quot;", '\'': "&#39;"}
	for r := range rune(0x110000) {
		if r >= 0xD800 && r <= 0xDFFF {
			continue
		}
		s := "a" + string(r) + "b"
		want := s
		switch {
		case r < 0x20 && r != 9 && r != 0xA && r != 0xD, r == 0xFFFE, r == 0xFFFF:
			want = "ab"
		case other[r] != "":
			want = "a" + other[r] + "b"
		}
		got := esc.Html(s)
		if got != want {
			t.Fatalf("Html of %X: %q, not %q", r, got, want)
		}
		if want != "ab" && esc.Unhtml(got) != s {
			t.Fatalf("Unhtml(%q): %q, not %q", got, esc.Unhtml(got), s)
		}
	}
}

func TestUnhtmlNames(t *testing.T) { // P2.2
	check(t, "Unhtml", esc.Unhtml, []pair{
		{"", ""},
		{"a b", "a b"},
		{"&amp;", "&"},
		{"&lt;", "<"},
		{"&gt;", ">"},
		{"&quot;", "\""},
		{"&apos;", "'"},
		{"&#x41;&#66;&amp;&nope;", "AB&&nope;"},
		{"x&lt;y&gt;z", "x<y>z"},
		{"&AMP;", "&AMP;"},
		{"&Lt;", "&Lt;"},
		{"&nbsp;", "&nbsp;"},
		{"&am;", "&am;"},
		{"&ampp;", "&ampp;"},
		{"&aamp;", "&aamp;"},
		{"& amp;", "& amp;"},
		{"&amp ;", "&amp ;"},
		{"&\namp;", "&\namp;"},
		{"&;", "&;"},
		{"amp;", "amp;"},
		{"&am&lt;p;", "&am<p;"},
	})
}

func TestUnhtmlNumbers(t *testing.T) { // P2.2
	check(t, "Unhtml", esc.Unhtml, []pair{
		{"&#9;", "\t"},
		{"&#65;", "A"},
		{"&#39;", "'"},
		{"&#0000065;", "A"},
		{"&#1114111;", "\U0010ffff"},
		{"&#;", "&#;"},
		{"&#00000065;", "&#00000065;"},
		{"&#12345678;", "&#12345678;"},
		{"&#x9;", "\t"},
		{"&#X9;", "\t"},
		{"&#xA;", "\n"},
		{"&#Xa;", "\n"},
		{"&#xe9;", "é"},
		{"&#XE9;", "é"},
		{"&#x20aC;", "€"},
		{"&#x1F600;", "😀"},
		{"&#x000041;", "A"},
		{"&#X000041;", "A"},
		{"&#x10ffff;", "\U0010ffff"},
		{"&#X10FFFF;", "\U0010ffff"},
		{"&#x;", "&#x;"},
		{"&#X;", "&#X;"},
		{"&#x0000041;", "&#x0000041;"},
		{"&#X0000041;", "&#X0000041;"},
		{"&#xg;", "&#xg;"},
		{"&#xG;", "&#xG;"},
		{"&#x@;", "&#x@;"},
		{"&#x`;", "&#x`;"},
		{"&#x/;", "&#x/;"},
		{"&#x:;", "&#x:;"},
		{"&#/;", "&#/;"},
		{"&#:;", "&#:;"},
		{"&#a;", "&#a;"},
		{"&#6a;", "&#6a;"},
		{"&#xx41;", "&#xx41;"},
		{"&#0x41;", "&#0x41;"},
		{"&x41;", "&x41;"},
		{"&65;", "&65;"},
		{"&##65;", "&##65;"},
		{"&#+65;", "&#+65;"},
		{"&#-65;", "&#-65;"},
		{"&#x+41;", "&#x+41;"},
		{"&#x-41;", "&#x-41;"},
		{"&#6_5;", "&#6_5;"},
		{"&#x4_1;", "&#x4_1;"},
		{"&# 65;", "&# 65;"},
		{"&#65 ;", "&#65 ;"},
		{"&#٣;", "&#٣;"},
	})
}

func TestUnhtmlNumbersThatAreNone(t *testing.T) { // P2.2
	for _, s := range []string{
		"&#0;", "&#0000000;", "&#x0;", "&#X0;", "&#x000000;", "&#xD800;", "&#xdbff;", "&#xDC00;", "&#xDFFF;",
		"&#55296;", "&#57343;", "&#1114112;", "&#9999999;", "&#x110000;", "&#xFFFFFF;",
	} {
		if got := esc.Unhtml(s); got != s {
			t.Errorf("Unhtml(%q): %q", s, got)
		}
	}
	// Code points that XML has not are code points all the same.
	check(t, "Unhtml", esc.Unhtml, []pair{
		{"&#1;", "\x01"},
		{"&#x1f;", "\x1f"},
		{"&#xD7FF;", "\ud7ff"},
		{"&#55295;", "\ud7ff"},
		{"&#xE000;", "\ue000"},
		{"&#57344;", "\ue000"},
		{"&#xFFFD;", bad},
		{"&#xFFFE;", "\ufffe"},
		{"&#65535;", "\uffff"},
		{"&#x10000;", "\U00010000"},
	})
}

func TestUnhtmlEveryNumber(t *testing.T) { // P2.2
	for n := range 0x110100 {
		want := ""
		if n != 0 && n <= 0x10FFFF && (n < 0xD800 || n > 0xDFFF) {
			want = string(rune(n))
		}
		for _, form := range []string{"&#%d;", "&#%07d;", "&#x%x;", "&#X%X;", "&#x%06X;"} {
			s := fmt.Sprintf(form, n)
			got := esc.Unhtml(s)
			if want != "" && got != want || want == "" && got != s {
				t.Fatalf("Unhtml(%q): %q", s, got)
			}
		}
	}
}

func TestUnhtmlFromTheFrontOn(t *testing.T) { // P2.2
	check(t, "Unhtml", esc.Unhtml, []pair{
		{"&amp", "&amp"},
		{"&#65", "&#65"},
		{"&#x41", "&#x41"},
		{"&", "&"},
		{"&#", "&#"},
		{"&#x", "&#x"},
		{"a&", "a&"},
		{"&&amp;", "&&"},
		{"&&&lt;", "&&<"},
		{"&#&amp;", "&#&"},
		{"&#x&lt;", "&#x<"},
		{"&#6&#65;5;", "&#6A5;"},
		{"&amp&amp;", "&amp&"},
		{"&amp;lt;", "&lt;"},
		{"&amp;amp;amp;", "&amp;amp;"},
		{"&#38;lt;", "&lt;"},
		{"&amp;#65;", "&#65;"},
		{"&#38;#38;", "&#38;"},
		{"&amp;;", "&;"},
		{"&lt;&gt;&quot;&apos;&amp;", "<>\"'&"},
	})
}

func TestUnhtmlLeavesBadBytes(t *testing.T) { // P2.2
	check(t, "Unhtml", esc.Unhtml, []pair{
		{"\xff", "\xff"},
		{"\xe2&lt;\x82", "\xe2<\x82"},
		{"&\xff;", "&\xff;"},
		{"&#\xb2;", "&#\xb2;"},
		{"\x00&amp;\x01", "\x00&\x01"},
		{"\xe2&#130;", "\xe2\u0082"},
	})
}

// TestUnhtmlRows goes through every row of up to five pieces, and holds Unhtml
// against the chapter's words as a pattern.
func TestUnhtmlRows(t *testing.T) { // P2.2
	pieces := []string{"&", "#", "&#", "x", "X", ";", "0", "41", "amp", "lt", "D8", "g", "\xff"}
	rows(pieces, 5, func(s string) {
		if got, want := esc.Unhtml(s), unhtmlOracle(s); got != want {
			t.Fatalf("Unhtml(%q): %q, not %q", s, got, want)
		}
	})
}

func TestJson(t *testing.T) { // P2.3
	check(t, "Json", esc.Json, []pair{
		{"", `""`},
		{"a b", `"a b"`},
		{"a<\n", `"a\u003c\n"`},
		{"\"", `"\""`},
		{"\\", `"\\"`},
		{"\n", `"\n"`},
		{"\r", `"\r"`},
		{"\t", `"\t"`},
		{"\b", `"\u0008"`},
		{"\f", `"\u000c"`},
		{"\v", `"\u000b"`},
		{"\x00", `"\u0000"`},
		{"\x1f", `"\u001f"`},
		{"\x20", `" "`},
		{"~\x7f\u0080", "\"~\\u007f\u0080\""},
		{"\u2027\u2028\u2029\u202a", "\"\u2027\\u2028\\u2029\u202a\""},
		{"<>&", `"\u003c\u003e\u0026"`},
		{"/", `"/"`},
		{"'", `"'"`},
		{`\u0041`, `"\\u0041"`},
		{`\n`, `"\\n"`},
		{"é€😀", "\"é€😀\""},
		{"\ufffe\uffff", "\"\ufffe\uffff\""},
		{"\xff", "\"" + bad + "\""},
		{"\xe2\x82\"", "\"" + bad + bad + "\\\"\""},
	})
}

func TestJsonOfEveryPoint(t *testing.T) { // P2.3, P2.5
	for r := range rune(0x110000) {
		if r >= 0xD800 && r <= 0xDFFF {
			continue
		}
		s := "a" + string(r) + "b"
		want := `"` + s + `"`
		switch {
		case r == '"':
			want = `"a\"b"`
		case r == '\\':
			want = `"a\\b"`
		case r == '\n':
			want = `"a\nb"`
		case r == '\r':
			want = `"a\rb"`
		case r == '\t':
			want = `"a\tb"`
		case r < 0x20, r == 0x7F, r == 0x2028, r == 0x2029, r == '<', r == '>', r == '&':
			want = fmt.Sprintf(`"a\u%04xb"`, r)
		}
		got := esc.Json(s)
		if got != want {
			t.Fatalf("Json of %X: %q, not %q", r, got, want)
		}
		if back, e := esc.Unjson(got); back != s || e != api.OK {
			t.Fatalf("Unjson(%q): %q %v", got, back, e)
		}
	}
}

func TestUnjson(t *testing.T) { // P2.3
	for _, p := range []pair{
		{`""`, ""},
		{`"a b"`, "a b"},
		{`"a\u003c\n"`, "a<\n"},
		{`"\""`, "\""},
		{`"\\"`, "\\"},
		{`"\/"`, "/"},
		{`"/"`, "/"},
		{`"\b"`, "\b"},
		{`"\f"`, "\f"},
		{`"\n"`, "\n"},
		{`"\r"`, "\r"},
		{`"\t"`, "\t"},
		{`"\\n"`, "\\n"},
		{`"\\\""`, "\\\""},
		{`"\\u0041"`, "\\u0041"},
		{`"\u0041"`, "A"},
		{`"\u00e9\u00E9"`, "éé"},
		{`"\uabcd\uABCD\uAbCd"`, "\uabcd\uabcd\uabcd"},
		{`"\u0000"`, "\x00"},
		{`"\u001f"`, "\x1f"},
		{`"\u0022"`, "\""},
		{`"\u005c"`, "\\"},
		{`"\u005Cn"`, "\\n"},
		{`"\u00412"`, "A2"},
		{`"\ud7ff\ue000"`, "\ud7ff\ue000"},
		{`"\uffff"`, "\uffff"},
		{`"\ud800\udc00"`, "\U00010000"},
		{`"\uD83D\uDE00"`, "😀"},
		{`"\ud83d\ude00"`, "😀"},
		{`"\uD83d\udE00"`, "😀"},
		{`"\ud800\udfff"`, "\U000103ff"},
		{`"\udbff\udc00"`, "\U0010fc00"},
		{`"\udbff\udfff"`, "\U0010ffff"},
		{`"\ud83d\ude00\ud83d\ude01"`, "😀😁"},
		{`"x\ud83d\ude00y"`, "x😀y"},
		{"\"\x20\"", " "},
		{"\"\x7f\u0080\u2028\u2029<>&'\"", "\x7f\u0080\u2028\u2029<>&'"},
		{"\"é€😀\ufffe\"", "é€😀\ufffe"},
		{"\"" + bad + "\"", bad},
	} {
		if got, e := esc.Unjson(p.s); got != p.want || e != api.OK {
			t.Errorf("Unjson(%q): %q %v, not %q", p.s, got, e, p.want)
		}
	}
}

func TestUnjsonRefuses(t *testing.T) { // P2.3
	wrong := []string{
		// quotes
		"", `"`, "a", `a"`, `"a`, `a`, `'a'`, ` "a"`, `"a" `, `"a"b"`, `"""`, `""""`, `"a""b"`, `\"a"`, "\"a\"\n",
		// what may stand in them as an escape alone
		"\"\n\"", "\"\t\"", "\"\x00\"", "\"\x1f\"", "\"a\rb\"",
		// no escapes
		`"\"`, `"a\"`, `"\\\"`, `"\a"`, `"\v"`, `"\0"`, `"\x41"`, `"\'"`, `"\N"`, `"\B"`, `"\ "`, `"\é"`, `"\U0041"`,
		// no four digits
		`"\u"`, `"\u1"`, `"\u12"`, `"\u123"`, `"\u123g"`, `"\ug123"`, `"\u 123"`, `"\u+123"`, `"\u-123"`, `"\u1_23"`,
		`"\u0x41"`, `"\u12é"`, `"\u{41}"`, `"\u123/"`, `"\u123:"`, `"\u123@"`, `"\u123G"`, "\"\\u123`\"", `"\u123"4"`,
		// halves of a pair
		`"\ud800"`, `"\udbff"`, `"\uDC00"`, `"\uDFFF"`, `"\ud83dx"`, `"\ud83d\n"`, `"\ud83d\\ude00"`, `"\ud83d\u0041"`,
		`"\ud83d\ud83d"`, `"\ude00\ud83d"`, `"\ude00\ude00"`, `"\ud83d \ude00"`, `"\ud83d\ude0"`, `"\ud83d\u"`,
		`"\ud83d\"`, `"\ud83d\ude0g"`, `"\ud83dude00"`, `"\ud83d/ude00"`, `"\ud83d\Ude00"`, `"\ud83d\ud83d\ude00"`,
		`"\ud83d\ude00\ude00"`, `"\ud83d\udbff"`, `"\ud83d\ue000"`, "\"\\ud83d\xed\xb8\x80\"", "\"\\ud83d😀\"",
		// wrong only behind much that is right
		`"abc\u0041\ud83d\ude00\n\ud83d"`, "\"abc\\u0041\x01\"",
	}
	for _, b := range badTexts {
		wrong = append(wrong, b, `"`+b+`"`, `"`+b+`\n"`, `"\u0041`+b+`"`, b+`""`, `""`+b)
	}
	for _, s := range wrong {
		if got, e := esc.Unjson(s); got != "" || e != api.ErrText {
			t.Errorf("Unjson(%q): %q %v", s, got, e)
		}
	}
}

func TestUnjsonEveryUnit(t *testing.T) { // P2.3
	for n := range 0x10000 {
		want, e := "", api.ErrText
		if n < 0xD800 || n > 0xDFFF {
			want, e = string(rune(n)), api.OK
		}
		for _, form := range []string{`"\u%04x"`, `"\u%04X"`} {
			s := fmt.Sprintf(form, n)
			if got, err := esc.Unjson(s); got != want || err != e {
				t.Fatalf("Unjson(%q): %q %v", s, got, err)
			}
		}
	}
}

func TestUnjsonEveryPair(t *testing.T) { // P2.3
	for r := rune(0x10000); r <= 0x10FFFF; r++ {
		s := fmt.Sprintf(`"\u%04x\u%04X"`, 0xD800+(r-0x10000)/0x400, 0xDC00+(r-0x10000)%0x400)
		if got, e := esc.Unjson(s); got != string(r) || e != api.OK {
			t.Fatalf("Unjson(%q): %q %v, not %X", s, got, e, r)
		}
	}
}

// TestUnjsonRows goes through every row of up to five pieces in quotes, and
// holds Unjson against the chapter's words as a pattern.
func TestUnjsonRows(t *testing.T) { // P2.3
	pieces := []string{`"`, `\`, `\u`, "/", "u", "n", "d83d", "DE00", "00e9", "0", "é", "\x1f", "\xff"}
	rows(pieces, 5, func(row string) {
		s := `"` + row + `"`
		want, ok := unjsonOracle(s)
		e := api.OK
		if !ok {
			e = api.ErrText
		}
		if got, err := esc.Unjson(s); got != want || err != e {
			t.Fatalf("Unjson(%q): %q %v, not %q %v", s, got, err, want, e)
		}
	})
	rows([]string{`"`, `\`, "n", "a", "'", "\xff"}, 6, func(s string) {
		want, ok := unjsonOracle(s)
		if got, e := esc.Unjson(s); got != want || (e == api.OK) != ok || !ok && e != api.ErrText {
			t.Fatalf("Unjson(%q): %q %v, not %q", s, got, e, want)
		}
	})
}

func TestPercent(t *testing.T) { // P2.4
	check(t, "Percent", esc.Percent, []pair{
		{"", ""},
		{"abcxyzABCXYZ0189", "abcxyzABCXYZ0189"},
		{"-._~", "-._~"},
		{"a-._~Zé", "a-._~Z%C3%A9"},
		{"@[`{/:", "%40%5B%60%7B%2F%3A"},
		{",+^}!*'()", "%2C%2B%5E%7D%21%2A%27%28%29"},
		{"\x7f\x80", "%7F%80"},
		{" ", "%20"},
		{"%", "%25"},
		{"%41", "%2541"},
		{"?a=b&c#d", "%3Fa%3Db%26c%23d"},
		{"\x00\n", "%00%0A"},
		{"\xff\xfe", "%FF%FE"},
		{"\xe2\x82", "%E2%82"},
		{"😀", "%F0%9F%98%80"},
	})
}

func TestPercentOfEveryByte(t *testing.T) { // P2.4
	const left = "abcdefghijklmnopqrstuvwxyzABCDEFGHIJKLMNOPQRSTUVWXYZ0123456789-._~"
	for c := range 0x100 {
		one := string([]byte{byte(c)})
		want := fmt.Sprintf("%%%02X", c)
		if strings.Contains(left, one) {
			want = one
		}
		if got := esc.Percent("a" + one + "b"); got != "a"+want+"b" {
			t.Errorf("Percent of %02X: %q", c, got)
		}
	}
}

func TestThereAndBack(t *testing.T) { // P2.5
	texts := []string{
		"", "a", "<a b='1'>\"&\"</a>", "&amp;", "&amp;amp;", "&#39;", "&lt", "&#x41;", "&&#;", `\u0041`, `\"`, `"`, `\`, `\\n`,
		"\t\n\r ", "\x7f\u2028\u2029\u00a0", "é€😀\U0010ffff", bad, "</script>", "]]>", "&\u2026;",
	}
	for _, s := range texts {
		backAndForth(t, s)
	}
	rows([]string{"&", "#", "x", ";", "41", "amp", "'", "\"", `\`, "u", "d83d", "é"}, 4, func(s string) {
		backAndForth(t, s)
	})
	random := rand.New(rand.NewSource(2))
	for range 5000 {
		var points []int
		for range random.Intn(20) {
			points = append(points, randomPoint(random))
		}
		s, e := utf.Make(points)
		if e != api.OK {
			t.Fatalf("Make(%X): %v", points, e)
		}
		backAndForth(t, s)
	}
	for _, s := range []string{"\x00\x01\x1f", "\ufffe\uffff", "a\x00<"} {
		if got, e := esc.Unjson(esc.Json(s)); got != s || e != api.OK {
			t.Errorf("Unjson(Json(%q)): %q %v", s, got, e)
		}
	}
}

func TestLongTexts(t *testing.T) {
	const n = 1 << 20
	if got := esc.Unhtml(strings.Repeat("&", n)); got != strings.Repeat("&", n) {
		t.Errorf("Unhtml of many bare &: %d bytes", len(got))
	}
	if got := esc.Unhtml(strings.Repeat("&#", n) + ";"); got != strings.Repeat("&#", n)+";" {
		t.Errorf("Unhtml of many references that are none: %d bytes", len(got))
	}
	if got := esc.Unhtml("&#" + strings.Repeat("0", n) + ";"); len(got) != n+3 {
		t.Errorf("Unhtml of many digits: %d bytes", len(got))
	}
	if got := esc.Html(strings.Repeat("'", n)); got != strings.Repeat("&#39;", n) {
		t.Errorf("Html of many quotes: %d bytes", len(got))
	}
	if got := esc.Json(strings.Repeat("\x00", n)); got != `"`+strings.Repeat(`\u0000`, n)+`"` {
		t.Errorf("Json of many zeros: %d bytes", len(got))
	}
	if got, e := esc.Unjson(`"` + strings.Repeat(`\ud83d\ude00`, n) + `"`); got != strings.Repeat("😀", n) || e != api.OK {
		t.Errorf("Unjson of many pairs: %d bytes, %v", len(got), e)
	}
	if got := esc.Percent(strings.Repeat("\xff", n)); got != strings.Repeat("%FF", n) {
		t.Errorf("Percent of many bytes: %d bytes", len(got))
	}
}

func TestAnswersAreNew(t *testing.T) {
	s := strings.Repeat("a", 3) // not a constant, so that it has memory of its own
	quoted := `"` + s + `"`
	within, _ := esc.Unjson(quoted)
	for name, a := range map[string]struct{ answer, whole string }{
		"Html": {esc.Html(s), s}, "Unhtml": {esc.Unhtml(s), s}, "Percent": {esc.Percent(s), s},
		"Unjson": {within, quoted[1:4]},
	} {
		if a.answer != "aaa" {
			t.Errorf("%s: %q", name, a.answer)
		}
		if unsafe.StringData(a.answer) == unsafe.StringData(a.whole) {
			t.Errorf("what %s answers shares memory with its argument", name)
		}
	}
}

func FuzzCalls(f *testing.F) { // P2.1 to P2.5
	for _, s := range []string{"&#x41;&#66;&amp;&nope;", `"\ud83d\ude00\n"`, "<a b='1'>", "\xff\"\\"} {
		f.Add(s)
	}
	f.Fuzz(func(t *testing.T, s string) {
		if got, want := esc.Unhtml(s), unhtmlOracle(s); got != want {
			t.Errorf("Unhtml(%q): %q, not %q", s, got, want)
		}
		want, ok := unjsonOracle(s)
		if got, e := esc.Unjson(s); got != want || (e == api.OK) != ok {
			t.Errorf("Unjson(%q): %q %v, not %q", s, got, e, want)
		}
		if got := esc.Unhtml(esc.Html(s)); got != utf.Plain(s) {
			t.Errorf("Unhtml(Html(%q)): %q", s, got)
		}
		if got, e := esc.Unjson(esc.Json(s)); got != utf.Repair(s) || e != api.OK {
			t.Errorf("Unjson(Json(%q)): %q %v", s, got, e)
		}
		if strings.ContainsAny(esc.Html(s), "<>\"'") || strings.ContainsAny(esc.Json(s), "<>&") {
			t.Errorf("Html or Json of %q has what it may not have", s)
		}
	})
}

// backAndForth wants a text of code points that XML has.
func backAndForth(t *testing.T, s string) {
	t.Helper()
	if got := esc.Unhtml(esc.Html(s)); got != s {
		t.Errorf("Unhtml(Html(%q)): %q", s, got)
	}
	if got, e := esc.Unjson(esc.Json(s)); got != s || e != api.OK {
		t.Errorf("Unjson(Json(%q)): %q %v", s, got, e)
	}
}

// randomPoint is a code point that XML has, one of ASCII half of the times.
func randomPoint(random *rand.Rand) int {
	if random.Intn(2) == 0 {
		return 0x20 + random.Intn(0x60)
	}
	for {
		p := random.Intn(0x110000)
		if p >= 0x20 && (p < 0xD800 || p > 0xDFFF) && p != 0xFFFE && p != 0xFFFF {
			return p
		}
	}
}

// rows tells every row of up to most of the pieces.
func rows(pieces []string, most int, tell func(string)) {
	var grow func(row string, left int)
	grow = func(row string, left int) {
		tell(row)
		if left == 0 {
			return
		}
		for _, p := range pieces {
			grow(row+p, left-1)
		}
	}
	grow("", most)
}

var referencePattern = regexp.MustCompile(`&(?:amp|lt|gt|quot|apos|#[0-9]{1,7}|#[xX][0-9a-fA-F]{1,6});`)

// unhtmlOracle replaces by a pattern written from the chapter's words.
func unhtmlOracle(s string) string {
	return referencePattern.ReplaceAllStringFunc(s, func(whole string) string {
		name := whole[1 : len(whole)-1]
		if name[0] != '#' {
			return map[string]string{"amp": "&", "lt": "<", "gt": ">", "quot": "\"", "apos": "'"}[name]
		}
		base, digits := 10, name[1:]
		if digits[0] == 'x' || digits[0] == 'X' {
			base, digits = 16, digits[1:]
		}
		n, err := strconv.ParseInt(digits, base, 64)
		if err != nil || n == 0 || n > 0x10FFFF || n >= 0xD800 && n <= 0xDFFF {
			return whole
		}
		return string(rune(n))
	})
}

const (
	high   = `\\u[dD][89aAbB][0-9a-fA-F]{2}`
	low    = `\\u[dD][c-fC-F][0-9a-fA-F]{2}`
	single = `\\u(?:[0-9a-ce-fA-CE-F][0-9a-fA-F]{3}|[dD][0-7][0-9a-fA-F]{2})`
	simple = `[^"\\\x00-\x1f]|\\["\\/bfnrt]`
)

var (
	quotedPattern = regexp.MustCompile(`\A"(?:` + high + low + `|` + single + `|` + simple + `)*"\z`)
	pointPattern  = regexp.MustCompile(high + low + `|` + single + `|` + simple)
)

// unjsonOracle reads by patterns written from the chapter's words.
func unjsonOracle(s string) (string, bool) {
	if !utf8.ValidString(s) || !quotedPattern.MatchString(s) {
		return "", false
	}
	return pointPattern.ReplaceAllStringFunc(s[1:len(s)-1], func(whole string) string {
		switch {
		case whole[0] != '\\':
			return whole
		case whole[1] != 'u':
			return map[byte]string{'"': "\"", '\\': "\\", '/': "/", 'b': "\b", 'f': "\f", 'n': "\n", 'r': "\r", 't': "\t"}[whole[1]]
		}
		n, _ := strconv.ParseInt(whole[2:6], 16, 64)
		if len(whole) == 12 {
			second, _ := strconv.ParseInt(whole[8:12], 16, 64)
			n = 0x10000 + (n-0xD800)*0x400 + second - 0xDC00
		}
		return string(rune(n))
	}), true
}
