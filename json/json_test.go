package json_test

import (
	"bytes"
	"fmt"
	"math"
	"slices"
	"strconv"
	"strings"
	"testing"
	"unsafe"

	"broadsheet/api"
	"broadsheet/json"
)

func null() api.Json           { return api.Json{Kind: api.JsonNull} }
func number(s string) api.Json { return api.Json{Kind: api.JsonNumber, Text: s} }
func text(s string) api.Json   { return api.Json{Kind: api.JsonText, Text: s} }

func list(members ...api.Json) api.Json {
	return api.Json{Kind: api.JsonList, List: members}
}

func object(names []string, members ...api.Json) api.Json {
	return api.Json{Kind: api.JsonObject, Names: names, List: members}
}

// isZero says whether a value is what stands beside an error.
func isZero(v api.Json) bool {
	return v.Kind == 0 && v.Text == "" && len(v.Names) == 0 && len(v.List) == 0
}

func parsed(t *testing.T, s string, want api.Json) {
	t.Helper()
	if v, e := json.Parse([]byte(s)); e != api.OK || !same(v, want) {
		t.Errorf("Parse(%.200q): %s %v, not %s", s, show(v), e, show(want))
	}
}

func refused(t *testing.T, s string, want api.Errno) {
	t.Helper()
	if v, e := json.Parse([]byte(s)); e != want || !isZero(v) {
		t.Errorf("Parse(%.200q) of %d bytes: %s %v, not %v", s, len(s), show(v), e, want)
	}
}

func TestParseKinds(t *testing.T) { // P7.1
	for s, want := range map[string]api.Json{
		"null":                           null(),
		"false":                          {Kind: api.JsonFalse},
		"true":                           {Kind: api.JsonTrue},
		"-10.50e+03":                     number("-10.50e+03"),
		`""`:                             text(""),
		`"a\u00e9\/\n\"b"`:               text("aé/\n\"b"),
		`"\ud83d\ude00"`:                 text("😀"),
		`"\ufffd` + "\ufffd\x7f\u2028\"": text("\ufffd\ufffd\x7f\u2028"),
		`"[{,:}]"`:                       text("[{,:}]"),
		"[]":                             list(),
		"[[]]":                           list(list()),
		"[null,0,\"0\"]":                 list(null(), number("0"), text("0")),
		"{}":                             object(nil),
		`{"":{}}`:                        object([]string{""}, object(nil)),
		`{"a":[],"b":{"c":false}}`:       object([]string{"a", "b"}, list(), object([]string{"c"}, api.Json{Kind: api.JsonFalse})),
	} {
		parsed(t, s, want)
	}
}

func TestExample(t *testing.T) { // P7.1, P7.3
	v, e := json.Parse([]byte(`{"a":[1,"x"],"a":null}`))
	if e != api.OK || !same(v, object([]string{"a", "a"}, list(number("1"), text("x")), null())) {
		t.Errorf("%s %v", show(v), e)
	}
	if a, ok := json.Get(v, "a"); !ok || !same(a, null()) {
		t.Errorf("%s %v", show(a), ok)
	}
}

func TestParseNamesTwice(t *testing.T) { // P7.1
	parsed(t, `{"a":1,"b":2,"a":3,"\u0061":4}`, object([]string{"a", "b", "a", "a"}, number("1"), number("2"), number("3"), number("4")))
	parsed(t, `{"":1,"":1}`, object([]string{"", ""}, number("1"), number("1")))
}

// parts of a value, between all of which white space may stand.
func parts() []string {
	return []string{"", "{", `"a b"`, ":", "[", "]", ",", `"b"`, ":", "[", "1", ",", "null", ",", "{", "}", "]", ",", `"c"`, ":", "true", ",", `""`, ":", `" x "`, "}", ""}
}

func TestParseWhite(t *testing.T) { // P7.1
	want := object([]string{"a b", "b", "c", ""}, list(), list(number("1"), null(), object(nil)), api.Json{Kind: api.JsonTrue}, text(" x "))
	for _, white := range []string{"", " ", "\t", "\n", "\r", " \t\n\r", strings.Repeat(" ", 1000)} {
		parsed(t, strings.Join(parts(), white), want)
		for at := 1; at < len(parts()); at++ {
			parsed(t, strings.Join(parts()[:at], "")+white+strings.Join(parts()[at:], ""), want)
		}
		for _, one := range []string{"null", "false", "true", "-1.5e7", `"a"`} {
			v, _ := json.Parse([]byte(one))
			parsed(t, white+one+white, v)
			parsed(t, "["+white+one+white+"]", list(v))
		}
	}
}

func TestParseOtherWhite(t *testing.T) { // P7.1
	for _, other := range []string{"\f", "\v", "\x00", "\b", "\x1f", "\x7f", "\x85", "\xa0", "\u0085", "\u00a0", "\u1680", "\u2003", "\u2028", "\u2029", "\u3000", "\ufeff", "\\n", "\\u0020", "/**/", "//\n", "#"} {
		for at := 1; at < len(parts()); at++ {
			ahead, behind := strings.Join(parts()[:at], ""), strings.Join(parts()[at:], "")
			refused(t, ahead+other+behind, api.ErrForm)
			refused(t, ahead+" "+other+behind, api.ErrForm)
			refused(t, ahead+other+" "+behind, api.ErrForm)
		}
	}
}

func TestParseWhiteWithin(t *testing.T) { // P7.1
	for _, s := range []string{"null", "false", "true", "12", "-1", "1.5", "1e5", "1E+5", "1e-05"} {
		for at := 1; at < len(s); at++ {
			for _, white := range []string{" ", "\t", "\n", "\r"} {
				refused(t, s[:at]+white+s[at:], api.ErrForm)
				refused(t, "["+s[:at]+white+s[at:]+"]", api.ErrForm)
			}
		}
	}
	for _, s := range []string{"\"\t\"", "\"\n\"", "\"a\rb\"", `"\ n"`, `"\u 0041"`, `"\u00 41"`, `"\ud83d \ude00"`} {
		refused(t, s, api.ErrForm)
	}
	parsed(t, `" "`, text(" "))
}

func TestParseWords(t *testing.T) { // P7.1
	for _, s := range []string{
		"n", "nul", "nulll", "Null", "NULL", "nil", "undefined", "f", "fals", "falsee", "False", "FALSE", "t", "tru", "truee", "True", "TRUE",
		"nullnull", "truefalse", "null1", "1null", `null"a"`, `"a"null`, "null[", "[null true]", "[truefalse]", "NaN", "Infinity", "-Infinity", "inf", "'a'", "a", "`a`", "ｎｕｌｌ",
	} {
		refused(t, s, api.ErrForm)
		refused(t, "["+s+"]", api.ErrForm)
		refused(t, `{"a":`+s+"}", api.ErrForm)
		refused(t, "{"+s+":1}", api.ErrForm)
	}
}

func TestParseNumbers(t *testing.T) { // P7.1, P7.2
	for _, s := range []string{
		"0", "-0", "1", "9", "10", "-10", "1234567890", "0.0", "-0.0", "0.5", "1.50", "-12.0340", "0e0", "0E0", "1e5", "1E5", "1e+5", "1E+5", "1e-5", "1E-5", "1e05", "1e00", "1.5e10", "-1.5E-10",
		"1e999999999", "-1e-999999999", "9223372036854775808", "123456789012345678901234567890.123456789012345678901234567890", "1" + strings.Repeat("0", 1000), "0." + strings.Repeat("0", 1000),
	} {
		parsed(t, s, number(s))
		parsed(t, "["+s+","+s+"]", list(number(s), number(s)))
		parsed(t, `{"a":`+s+"}", object([]string{"a"}, number(s)))
		printed(t, number(s), s)
	}
	for _, s := range []string{
		"-", "--1", "+1", "+0", "-+1", "+-1", "00", "01", "-00", "-01", "007", "00.5", "01e5", "1.", "0.", "-1.", "1.e5", "1.E+5", ".5", "-.5", ".", "-.", "1..5", "1.5.", "1.5.5", "e5", "-e5", "1e", "1E", "1e+", "1e-", "1e++5", "1e+-5", "1e-+5", "1e5.", "1e5.5", "1e5e5", "1ee5", "1e.5", "1.5e", "1.5e+",
		"0x10", "0b1", "0o7", "1_000", "1,000", "1f", "1L", "1n", "1/2", "1:2", "1-", "1+1", "1-1", "0-", "٣", "１", "1é", "½", "−1", "1\x00", "1\xff",
	} {
		refused(t, s, api.ErrForm)
		notPrinted(t, number(s))
		if s != "1,000" {
			refused(t, "["+s+"]", api.ErrForm)
			refused(t, `{"a":`+s+"}", api.ErrForm)
		}
	}
	for _, s := range []string{"", " ", " 1", "1 ", "1\n", "null", "\"1\"", "[]"} {
		notPrinted(t, number(s))
	}
}

func TestParseEveryNumber(t *testing.T) { // P7.1, P7.2
	rows([]string{"-", "+", ".", "e", "E", "0", "1", "9"}, long(6), func(s string) {
		want, wrong := api.Json{}, api.ErrForm
		if numberPattern.MatchString(s) {
			want, wrong = number(s), api.OK
		}
		if v, e := json.Parse([]byte(s)); e != wrong || !same(v, want) {
			t.Fatalf("Parse(%q): %s %v", s, show(v), e)
		}
		if v, e := json.Parse([]byte("[" + s + "]")); s != "" && (e != wrong || e == api.OK && !same(v, list(want))) {
			t.Fatalf("Parse([%q]): %s %v", s, show(v), e)
		}
		if p, e := json.Print(number(s)); (e == api.OK) != (wrong == api.OK) || e == api.OK && p != s || e != api.OK && (p != "" || e != api.ErrArg) {
			t.Fatalf("Print of %q: %q %v", s, p, e)
		}
	})
}

func TestParseTexts(t *testing.T) { // P7.1
	wrong := []string{
		"\"", "\"a", "a\"", `"\"`, `"\`, `"a\`, `"\\\"`, "\"\\\\\\", `"\u`, `"\u0`, `"\u00`, `"\u004`, `"\u0041`, `"\ud83d\ude0`, // no end
		`"\u"`, `"\u0"`, `"\u00"`, `"\u004"`, `"\u004g"`, `"\u00é1"`, `"\U0041"`, `"\x41"`, `"\a"`, `"\v"`, `"\0"`, `"\'"`, `"\ "`, `"\é"`, "\"\\\n\"", "\"\\\xff\"", `"\N"`,
		`"\ud83d"`, `"\ude00"`, `"\ude00\ud83d"`, `"\ud83d\ud83d"`, `"\ud83d\u0041"`, `"\ud83da"`, `"\ud83d\n"`, `"\ud83d\\ude00"`, `"\udbff\ue000"`,
		"\"\x00\"", "\"\x1f\"", "\"\n\"", "\"\r\"", "\"\t\"", "\"\f\"", "\"a\x01b\"",
		"\"\xff\"", "\"\x80\"", "\"a\xe2\x82\"", "\"\xe2\"", "\"\xc0\x80\"", "\"\xed\xa0\x80\"", "\"\xf4\x90\x80\x80\"", "\"\xf0\x9f\x98\"", "\"\\ud83d\xed\xb8\x80\"",
		`"a""`, `"a"b"`, `""a`, `""""`, `'a'`, `"a'`, "“a”", "“a\"",
	}
	for _, s := range wrong {
		refused(t, s, api.ErrForm)
		refused(t, " "+s, api.ErrForm)
		refused(t, "["+s, api.ErrForm)
		refused(t, "["+s+"]", api.ErrForm)
		refused(t, "[1,"+s+"]", api.ErrForm)
		refused(t, "{"+s, api.ErrForm)
		refused(t, "{"+s+":1}", api.ErrForm)
		refused(t, `{"a":1,`+s+":1}", api.ErrForm)
		refused(t, `{"a":`+s, api.ErrForm)
		refused(t, `{"a":`+s+"}", api.ErrForm)
		// It counts where it begins: ahead of what is too deep, in it and behind it.
		refused(t, strings.Repeat("[", 24)+s+",[", api.ErrForm)
		refused(t, strings.Repeat("[", 23)+"{"+s+":[", api.ErrForm)
	}
	for s, want := range map[string]string{
		`"\\"`: "\\", `"\\\\"`: "\\\\", `"\\\""`: "\\\"", `"\""`: "\"", `"\u0022"`: "\"", `"\u005c"`: "\\", `"\\u0041"`: "\\u0041", `"\u0000"`: "\x00", `"\uD83D\uDE00\udbff\udfff"`: "😀\U0010ffff", `"\ud7ff\ue000"`: "\ud7ff\ue000",
		"\"'\"": "'", "\"é€😀\ufffe\uffff\"": "é€😀\ufffe\uffff", `"\b\f\n\r\t\/"`: "\b\f\n\r\t/",
	} {
		parsed(t, s, text(want))
		parsed(t, "{"+s+":"+s+"}", object([]string{want}, text(want)))
	}
}

func TestParseTextsOfMuch(t *testing.T) { // P7.1
	s := `"` + strings.Repeat(`\\`, 30000) + `"`
	parsed(t, s, text(strings.Repeat(`\`, 30000)))
	refused(t, s[:len(s)-1], api.ErrForm)
	refused(t, `"`+strings.Repeat(`\`, 65533)+`"`, api.ErrForm)
	refused(t, strings.Repeat(`"`, 65536), api.ErrForm)
	refused(t, "["+strings.Repeat(`"",`, 20000), api.ErrForm)
	refused(t, `"`+strings.Repeat("a", 60000)+"\xff\"", api.ErrForm)
}

func TestParseForms(t *testing.T) { // P7.1
	for _, s := range []string{
		"", " ", "\n\t\r ", // nothing
		",", ",1", "1,", ":", "]", "}", "[]]", "{}}", "[}", "{]", "(1)", ";", "=", "@", "\x00", "é", // what may not stand there
		"1 2", "1\n2", "null null", `"a" "b"`, "[] []", "{} {}", "[]{}", "[],[]", "1[]", "[]1", `{}"a"`, // two values
		"[1,]", "[,1]", "[,]", "[1,,2]", "[1 2]", "[1\"a\"]", "[[][]]", "[1:2]", `["a":1]`, "[1;2]", "[1,2", "[1,2}", "[", "[1", "[1,", "[[]", // lists
		"{,}", `{"a"}`, `{"a":}`, `{"a":1,}`, `{,"a":1}`, `{"a":1,,"b":2}`, `{"a":1 "b":2}`, `{"a":1"b":2}`, `{"a" 1}`, `{"a"1}`, `{"a",1}`, `{"a"::1}`, `{"a":1:2}`, `{"a":1,"b"}`, `{"a":1,2}`, `{"a"=1}`, `{"a":1;"b":2}`, `{:1}`, `{"a":1]`, "{", `{"a":1`, // objects
		"{1:2}", "{null:1}", "{true:1}", "{a:1}", "{'a':1}", "{[]:1}", "{{}:1}", `{{"a":1}}`, `{["a"]:1}`, "{1}", "{[]}", // names
	} {
		refused(t, s, api.ErrForm)
		refused(t, " "+s+" ", api.ErrForm)
	}
	refused(t, "\ufeffnull", api.ErrForm)
	refused(t, "null\x00", api.ErrForm)
	refused(t, "null\x1a", api.ErrForm)
	if v, e := json.Parse(nil); e != api.ErrForm || !isZero(v) {
		t.Errorf("Parse(nil): %s %v", show(v), e)
	}
}

func TestParseEnds(t *testing.T) { // P7.1
	for _, s := range []string{
		`{"a":[1,"x"],"a":null}`, ` { "a b" : [ -0.5e+3 , true , false , "\ud83d\ude00é" ] , "" : { } , "n" : [ [ ] ] }`,
		strings.Repeat(`[{"a":`, 12) + "1" + strings.Repeat("}]", 12), "[null]", `"\u0041\\"`,
	} {
		if _, e := json.Parse([]byte(s)); e != api.OK {
			t.Errorf("Parse(%q): %v", s, e)
		}
		for at := range len(s) {
			refused(t, s[:at], api.ErrForm)
		}
	}
}

func TestParseNoText(t *testing.T) { // P7.1
	for _, bad := range []string{"\x80", "\xbf", "\xc0", "\xff", "\xfe", "\xe2\x82", "\xc0\x80", "\xc1\xbf", "\xe0\x80\x80", "\xed\xa0\x80", "\xf0\x80\x80\x80", "\xf4\x90\x80\x80", "\xf8\x88\x80\x80\x80"} {
		for at := 1; at < len(parts()); at++ {
			refused(t, strings.Join(parts()[:at], "")+bad+strings.Join(parts()[at:], ""), api.ErrForm)
		}
		for _, form := range []string{`"%s"`, `"a%s"`, `"%sa"`, `["%s"]`, `{"%s":1}`, `{"a":"%s"}`, `{"a":1,"b%s":1}`, `"\\%s"`, `"\n%s\n"`, `"\"%s\""`} {
			refused(t, fmt.Sprintf(form, bad), api.ErrForm)
			parsed := fmt.Sprintf(form, "\ufffd")
			if _, e := json.Parse([]byte(parsed)); e != api.OK {
				t.Errorf("Parse(%q): %v", parsed, e)
			}
		}
	}
}

func TestParseLong(t *testing.T) { // P7.1
	if api.MaxBody != 65536 || api.MaxDepth != 24 {
		t.Fatal("other limits")
	}
	for _, n := range []int{65535, 65536} {
		parsed(t, strings.Repeat(" ", n-1)+"1", number("1"))
		parsed(t, "1"+strings.Repeat("\n", n-1), number("1"))
		parsed(t, strings.Repeat("1", n), number(strings.Repeat("1", n)))
		parsed(t, `"`+strings.Repeat("a", n-2)+`"`, text(strings.Repeat("a", n-2)))
		parsed(t, `{"`+strings.Repeat("a", n-6)+`":1}`, object([]string{strings.Repeat("a", n-6)}, number("1")))
		odd := strings.Repeat(" ", n%2+1)
		if v, e := json.Parse([]byte("[0" + strings.Repeat(",0", n/2-2) + odd + "]")); e != api.OK || len(v.List) != n/2-1 || slices.ContainsFunc(v.List, func(v api.Json) bool { return !same(v, number("0")) }) {
			t.Errorf("Parse of %d zeros: %v", n/2-1, e)
		}
		refused(t, strings.Repeat(" ", n), api.ErrForm)
		refused(t, strings.Repeat("\xff", n), api.ErrForm)
		refused(t, strings.Repeat("[", n), api.ErrDeep)
		refused(t, strings.Repeat(`{"":`, n/4), api.ErrDeep)
	}
	for _, n := range []int{65537, 65538, 1 << 17, 1 << 24} {
		for _, s := range []string{"1", " ", "[", "]", "\xff", "\x00", "\"", "x"} {
			refused(t, strings.Repeat(s, n), api.ErrLong)
		}
		refused(t, strings.Repeat(" ", n-1)+"1", api.ErrLong)
		refused(t, "1"+strings.Repeat(" ", n-1), api.ErrLong)
		refused(t, `"`+strings.Repeat("a", n-2)+`"`, api.ErrLong)
		refused(t, "x"+strings.Repeat("[", n-1), api.ErrLong)
	}
}

// nested text: so many brackets or braces, each as mark says: [ or { at its place.
func nested(marks string, n int) (ahead, behind string) {
	for i := range n {
		if marks[i%len(marks)] == '[' {
			ahead, behind = ahead+"[", "]"+behind
		} else {
			ahead, behind = ahead+`{"a":`, "}"+behind
		}
	}
	return ahead, behind
}

func TestParseDeep(t *testing.T) { // P7.1
	for _, marks := range []string{"[", "{", "[{", "{[", "[[{"} {
		for _, n := range []int{22, 23, 24} {
			ahead, behind := nested(marks, n)
			for _, s := range []string{"0", `"[[{"`, "null"} {
				v, e := json.Parse([]byte(ahead + s + behind))
				if e != api.OK || json.Depth(v) != n {
					t.Errorf("Parse of %d deep: %v, Depth %d", n, e, json.Depth(v))
				}
			}
			for _, s := range []string{"[]", "{}", " [\n] ", `{"":0}`} {
				v, e := json.Parse([]byte(ahead + s + behind))
				if n < 24 && (e != api.OK || json.Depth(v) != n+1) || n == 24 && (e != api.ErrDeep || !isZero(v)) {
					t.Errorf("Parse of %d deep: %v, Depth %d", n+1, e, json.Depth(v))
				}
			}
		}
		for _, n := range []int{25, 26, 48, 1000} {
			ahead, behind := nested(marks, n)
			for _, s := range []string{ahead + "0" + behind, ahead, ahead + "x", ahead + behind, ahead + "\xff", ahead + behind + "x"} {
				refused(t, s, api.ErrDeep)
			}
		}
	}
}

func TestParseDeepInAnEmptyOne(t *testing.T) { // P7.1: [] within 23 others is the 24th, within 24 the 25th
	for n, want := range map[int]api.Errno{23: api.OK, 24: api.OK, 25: api.ErrDeep} {
		for _, pair := range []string{"[]", "{}"} {
			ahead, behind := nested("[", n-1)
			if v, e := json.Parse([]byte(ahead + pair + behind)); e != want || e == api.OK && json.Depth(v) != n {
				t.Errorf("Parse of %d: %v", n, e)
			}
		}
	}
}

func TestParseDeepAmongOthers(t *testing.T) { // P7.1
	// What is closed again counts no more, at the front and at the back.
	most, end := nested("[{", 23)
	refused(t, "["+most+"[]"+end+"]", api.ErrDeep) // 1 and 23 and 1
	most, end = nested("[{", 22)
	all := "[" + strings.Repeat(most+"[]"+end+",", 50) + most + "{}" + end + "]"
	if v, e := json.Parse([]byte(all)); e != api.OK || json.Depth(v) != 24 || len(v.List) != 51 {
		t.Errorf("Parse of many that are 24 deep: %v", e)
	}
	refused(t, all[:len(all)-1]+","+most+"[[]]"+end+"]", api.ErrDeep)
	refused(t, all[:len(all)-1]+"x,"+most+"[[]]"+end+"]", api.ErrForm)
}

func TestParseWrongAndDeep(t *testing.T) { // P7.1
	for _, marks := range []string{"[", "{", "[{"} {
		for _, opening := range []string{"[", "{", " [", "\n{"} {
			ahead, behind := nested(marks, 24)
			closing := map[string]string{"[": "]", "{": "}"}[strings.TrimSpace(opening)]
			deep := opening + closing
			// Wrong ahead of it.
			for _, wrong := range []string{"x", "1", "\xff", "\"\x01\"", "\"a\"", "null", "01", "-", "1.", "1e", ",", ":", "]}", "}]", "nul", "\"", `"\u"`, "\f", "+1,"} {
				refused(t, ahead+wrong+deep+behind, api.ErrForm)
			}
			for at := range len(ahead) {
				refused(t, ahead[:at]+"\x00"+ahead[at:]+deep+behind, api.ErrForm)
			}
			// Wrong within it, and behind it.
			for _, wrong := range []string{"x", ",", "\xff", "\"\x01\"", "}", "]", "", ":", "1 2", "01"} {
				refused(t, ahead+opening+wrong+closing+behind, api.ErrDeep)
				refused(t, ahead+deep+wrong+behind+"]", api.ErrDeep)
				refused(t, ahead+deep+behind+wrong+" 1", api.ErrDeep)
				refused(t, ahead+opening+wrong, api.ErrDeep)
			}
			refused(t, ahead+opening, api.ErrDeep)
			refused(t, ahead, api.ErrForm)
		}
	}
	// One that opens no value is wrong, however deep it stands.
	list, object := strings.Repeat("[", 24), strings.Repeat("[", 23)+"{"
	for _, s := range []string{list + "0[", list + "0 {", list + "\"a\"[", list + "][", list + "] {", list + "0,0[", object + "[", object + "{", object + `"a"[`, object + `"a"{`, object + `"a" [`, object + `"a":1[`, object + `"a":1,[`, object + `"a":1,{`, object + "}[", list + "-[", list + "1.[", list + "1e[", list + "nul[", list + "\"["} {
		refused(t, s, api.ErrForm)
	}
	for _, s := range []string{list + "0,[", list + "0 , {", object + `"a":[`, object + `"a" : {`, object + `"a":1,"b":[`, list + "],[[", list + "\"[[\",{"} {
		refused(t, s, api.ErrDeep)
	}
}

func TestDepth(t *testing.T) { // P7.1
	inner := []api.Json{list(list())}
	for want, values := range [][]api.Json{
		{null(), {Kind: api.JsonFalse}, {Kind: api.JsonTrue}, number("1"), text("[["), {}, {Kind: 7, List: inner}, {Kind: -1, List: inner}, {Kind: math.MaxInt, List: inner}, {Kind: math.MinInt, List: inner}, {Kind: api.JsonText, List: inner}, {Kind: api.JsonNumber, List: inner}, {Kind: api.JsonNull, List: inner, Names: []string{"a"}}},
		{list(), object(nil), {Kind: api.JsonList, List: []api.Json{}}, list(null(), number("1")), object([]string{"a"}, text("a")), list(api.Json{Kind: 7, List: inner}), {Kind: api.JsonObject, Names: []string{"a", "b"}}},
		{list(list()), list(null(), list(), null()), object([]string{"a"}, list()), list(object(nil), list()), {Kind: api.JsonObject, List: []api.Json{{Kind: api.JsonList}}}},
		{list(list(list())), list(list(), list(list()), null()), list(list(list()), list()), object([]string{"a", "b"}, object([]string{"c"}, object(nil)), null())},
	} {
		for _, v := range values {
			if got := json.Depth(v); got != want {
				t.Errorf("Depth(%s): %d, not %d", show(v), got, want)
			}
		}
	}
}

// within puts a value into so many lists and objects.
func within(v api.Json, marks string, n int) api.Json {
	for i := range n {
		if marks[i%len(marks)] == '[' {
			v = list(v)
		} else {
			v = object([]string{"a"}, v)
		}
	}
	return v
}

func printed(t *testing.T, v api.Json, want string) {
	t.Helper()
	if s, e := json.Print(v); s != want || e != api.OK {
		t.Errorf("Print(%s): %.200q %v, not %.200q", show(v), s, e, want)
	}
}

func notPrinted(t *testing.T, v api.Json) {
	t.Helper()
	if s, e := json.Print(v); s != "" || e != api.ErrArg {
		t.Errorf("Print(%s): %.200q %v", show(v), s, e)
	}
}

func TestPrint(t *testing.T) { // P7.2
	for want, v := range map[string]api.Json{
		"null": {}, "false": {Kind: api.JsonFalse}, "true": {Kind: api.JsonTrue}, "-1.50E+07": number("-1.50E+07"),
		`""`: text(""), `"a\"\\\n\r\t\u0008\u0000\u007f\u2028\u003c\u003e\u0026é😀/'` + "\ufffd\"": text("a\"\\\n\r\t\b\x00\x7f\u2028<>&é😀/'\ufffd"),
		"[]": {Kind: api.JsonList, List: []api.Json{}, Names: []string{}}, "{}": {Kind: api.JsonObject, List: []api.Json{}}, "[[],{}]": list(list(), object(nil)),
		`[null,1,"a b"]`: list(null(), number("1"), text("a b")),
		`{"a":[1,"x"],"a":null,"":{"\u003c\"":true}}`: object([]string{"a", "a", ""}, list(number("1"), text("x")), null(), object([]string{"<\""}, api.Json{Kind: api.JsonTrue})),
	} {
		printed(t, v, want)
		parsed(t, want, v)
	}
	// Nil and empty lists are one.
	for kind := range api.JsonList {
		v := api.Json{Kind: kind, List: []api.Json{}, Names: make([]string, 0, 3)}
		if kind == api.JsonNumber {
			v.Text = "0"
		}
		if _, e := json.Print(v); e != api.OK {
			t.Errorf("Print(%s): %v", show(v), e)
		}
	}
}

// notRight values, each for one reason.
func notRight() []api.Json {
	one, names := []api.Json{{}}, []string{"a"}
	wrong := []api.Json{
		{Kind: 7}, {Kind: -1}, {Kind: 8}, {Kind: math.MaxInt}, {Kind: math.MinInt}, {Kind: 1 << 32}, {Kind: 1<<32 + 5}, {Kind: 256}, {Kind: 7, Text: "a"}, {Kind: 7, List: one}, // no kind
		number(""), number("a"), number("01"), number("1."), number("+1"), number("-"), number("1 "), number(" 1"), number("1e"), number("NaN"), number("1,2"), number("1]"), number("\xff"), number("null"), // no number
		text("\xff"), text("a\x80"), text("\xe2\x82"), text("\xed\xa0\x80"), text("\xc0\x80"), text("\xf4\x90\x80\x80"), // no text
		object([]string{"\xff"}, null()), object([]string{"a", "a\x80"}, null(), null()), object([]string{"\xed\xa0\x80", "a"}, null(), null()), // no name
		object(names), object(nil, null()), object(names, null(), null()), object([]string{"a", "b"}, null()), object([]string{""}), object([]string{"\xff"}), // not as many
		{Kind: api.JsonList, Names: names}, {Kind: api.JsonList, Names: names, List: one}, {Kind: api.JsonList, Names: []string{""}, List: one},
	}
	for _, kind := range []api.JsonKind{api.JsonNull, api.JsonFalse, api.JsonTrue, api.JsonList, api.JsonObject} {
		for _, s := range []string{"a", " ", "null", "0", "[]", "\xff", "\x00"} {
			wrong = append(wrong, api.Json{Kind: kind, Text: s})
		}
	}
	wrong = append(wrong, api.Json{Kind: api.JsonList, Text: "a", List: one}, api.Json{Kind: api.JsonObject, Text: "a", List: one, Names: names})
	for _, kind := range []api.JsonKind{api.JsonNull, api.JsonFalse, api.JsonTrue, api.JsonNumber, api.JsonText} {
		s := ""
		if kind == api.JsonNumber {
			s = "1"
		}
		wrong = append(wrong, api.Json{Kind: kind, Text: s, List: one}, api.Json{Kind: kind, Text: s, Names: names}, api.Json{Kind: kind, Text: s, Names: names, List: one}, api.Json{Kind: kind, Text: s, Names: []string{""}})
	}
	return wrong
}

func TestPrintNotRight(t *testing.T) { // P7.2
	for _, v := range notRight() {
		notPrinted(t, v)
		notPrinted(t, list(v))
		notPrinted(t, list(v, null()))
		notPrinted(t, list(null(), v))
		notPrinted(t, list(null(), v, null()))
		notPrinted(t, object([]string{"a"}, v))
		notPrinted(t, object([]string{"a", "a", "a"}, null(), v, null()))
		notPrinted(t, list(object([]string{"a"}, list(v)), null()))
		notPrinted(t, object([]string{"a", "b"}, list(null()), list(list(), v)))
		notPrinted(t, within(v, "[{", 22))
		notPrinted(t, within(v, "{", 30))
	}
}

func TestPrintDeep(t *testing.T) { // P7.2
	for _, marks := range []string{"[", "{", "[{", "{{["} {
		for _, n := range []int{1, 23, 24, 25, 26, 1000, 1 << 16} {
			for inner, more := range map[int][]api.Json{0: {null(), number("1"), text("[")}, 1: {list(), object(nil), list(null())}} {
				for _, v := range more {
					v = within(v, marks, n-inner)
					if json.Depth(v) != n {
						t.Errorf("Depth: %d, not %d", json.Depth(v), n)
					}
					s, e := json.Print(v)
					if n > 24 && (s != "" || e != api.ErrArg) {
						t.Errorf("Print of %d deep: %.200q %v", n, s, e)
					}
					if again, wrong := json.Parse([]byte(s)); n <= 24 && (e != api.OK || wrong != api.OK || !same(again, v)) {
						t.Errorf("Print of %d deep: %.200q %v %v", n, s, e, wrong)
					}
				}
			}
		}
	}
	// The deepest one counts, wherever it is.
	for at := range 3 {
		for n, want := range map[int]api.Errno{22: api.OK, 23: api.OK, 24: api.ErrArg} {
			v := list(null(), list(), object(nil))
			v.List[at] = within(null(), "[{", n)
			if _, e := json.Print(v); e != want {
				t.Errorf("Print of one at %d, %d deep: %v", at, n+1, e)
			}
		}
	}
}

func TestPrintLong(t *testing.T) { // P7.2
	for _, n := range []int{65535, 65536, 65537, 1 << 20} {
		for _, v := range []api.Json{
			text(strings.Repeat("a", n-2)), number(strings.Repeat("1", n)), list(number("1"), text(strings.Repeat("a", n-6))),
			object([]string{strings.Repeat("a", n-6)}, number("1")),
		} {
			s, e := json.Print(v)
			if len(s) != n || e != api.OK {
				t.Errorf("Print of %d bytes: %d bytes, %v", n, len(s), e)
			}
			again, e := json.Parse([]byte(s))
			if n <= 65536 && (e != api.OK || !same(again, v)) || n > 65536 && (e != api.ErrLong || !isZero(again)) {
				t.Errorf("Parse of %d bytes that were printed: %v", n, e)
			}
		}
	}
	wide := api.Json{Kind: api.JsonList, List: make([]api.Json, 1<<16)}
	printed(t, wide, "["+strings.TrimSuffix(strings.Repeat("null,", 1<<16), ",")+"]")
	printed(t, text(strings.Repeat("<", 20000)), `"`+strings.Repeat(`\u003c`, 20000)+`"`)
}

func TestGet(t *testing.T) { // P7.3
	members := []api.Json{null(), {Kind: api.JsonFalse}, {Kind: api.JsonTrue}, number("1.50"), text("é"), list(number("1"), list(text("x"))), object([]string{"a", "a"}, null(), number("2"))}
	var names []string
	for i := range members {
		names = append(names, strconv.Itoa(i))
	}
	v := object(names, members...)
	for i, member := range members {
		if got, ok := json.Get(v, names[i]); !ok || !same(got, member) {
			t.Errorf("Get of %s: %s %v", show(member), show(got), ok)
		}
		want := []string{3: "1.50", 4: "é", 6: ""}[i]
		if got := json.Text(v, names[i]); got != want {
			t.Errorf("Text of %s: %q", show(member), got)
		}
		if got, ok := json.Get(object([]string{""}, member), ""); !ok || !same(got, member) {
			t.Errorf("Get of %s by an empty name: %s %v", show(member), show(got), ok)
		}
		if got := json.Text(object([]string{""}, member), ""); got != want {
			t.Errorf("Text of %s by an empty name: %q", show(member), got)
		}
	}
	without(t, v, "", "7", "00", " 0", "0 ", "a", "\xff", strings.Repeat("0", 1<<16))
	without(t, object(nil), "", "a")
	without(t, object([]string{"a", "é"}, null(), null()), "A", "", "e\u0301", "a\x00", "\xff", "\ufffd", "b")
	// Names are one, byte for byte, also those that are no texts.
	odd := object([]string{"\xff", "\ufffd", "\xfe"}, number("1"), number("2"), number("3"))
	if json.Text(odd, "\xff") != "1" || json.Text(odd, "\ufffd") != "2" || json.Text(odd, "\xfe") != "3" {
		t.Errorf("names that are no texts")
	}
}

// without these names there is none.
func without(t *testing.T, v api.Json, names ...string) {
	t.Helper()
	for _, name := range names {
		if got, ok := json.Get(v, name); ok || !isZero(got) {
			t.Errorf("Get(%s, %.200q): %s %v", show(v), name, show(got), ok)
		}
		if got := json.Text(v, name); got != "" {
			t.Errorf("Text(%s, %.200q): %q", show(v), name, got)
		}
	}
}

func TestGetNamesTwice(t *testing.T) { // P7.3
	v := object([]string{"a", "b", "a", "b", "a", "c"}, number("1"), number("2"), text("x"), list(), text("last"), null())
	for name, want := range map[string]api.Json{"a": text("last"), "b": list(), "c": null()} {
		if got, ok := json.Get(v, name); !ok || !same(got, want) {
			t.Errorf("Get %q: %s %v", name, show(got), ok)
		}
	}
	// Where the last one is neither text nor number, an earlier one doesn't count.
	if json.Text(v, "a") != "last" || json.Text(v, "b") != "" || json.Text(v, "c") != "" {
		t.Errorf("%q %q %q", json.Text(v, "a"), json.Text(v, "b"), json.Text(v, "c"))
	}
}

func TestGetNotAsMany(t *testing.T) { // P7.3
	more := object([]string{"a", "b", "a", "c", ""}, number("1"), number("2")) // more Names than List
	if json.Text(more, "a") != "1" || json.Text(more, "b") != "2" {
		t.Errorf("%q %q", json.Text(more, "a"), json.Text(more, "b"))
	}
	without(t, more, "c", "")
	without(t, object([]string{"a"}), "a", "")
	fewer := object([]string{"a", ""}, number("1"), number("2"), number("3"), text("4")) // fewer
	if json.Text(fewer, "a") != "1" || json.Text(fewer, "") != "2" {
		t.Errorf("%q %q", json.Text(fewer, "a"), json.Text(fewer, ""))
	}
	without(t, fewer, "b")
	without(t, object(nil, number("1")), "", "a")
}

func TestGetOfOthers(t *testing.T) { // P7.3
	names, members := []string{"a", ""}, []api.Json{number("1"), text("b")}
	for _, kind := range []api.JsonKind{0, 1, 2, 3, 4, 5, 7, 8, -1, math.MaxInt, math.MinInt, 1<<32 + 6} {
		without(t, api.Json{Kind: kind, Text: "a", Names: names, List: members}, "a", "", "b")
	}
	// An object that isn't right for another reason has its members.
	v := api.Json{Kind: api.JsonObject, Text: "x", Names: names, List: members}
	if json.Text(v, "a") != "1" || json.Text(v, "") != "b" {
		t.Errorf("%q %q", json.Text(v, "a"), json.Text(v, ""))
	}
	// So are members that aren't right what they are.
	for _, member := range notRight() {
		v := object([]string{"a"}, member)
		if got, ok := json.Get(v, "a"); !ok || !same(got, member) {
			t.Errorf("Get of %s: %s %v", show(member), show(got), ok)
		}
		want := ""
		if member.Kind == api.JsonNumber || member.Kind == api.JsonText {
			want = member.Text
		}
		if got := json.Text(v, "a"); got != want {
			t.Errorf("Text of %s: %q", show(member), got)
		}
	}
}

func TestManyLevels(t *testing.T) { // every call ends
	const n = 1 << 16
	v := within(text("x"), "[{", n)
	if json.Depth(v) != n {
		t.Errorf("Depth: %d", json.Depth(v))
	}
	notPrinted(t, v)
	if got, ok := json.Get(v, "a"); !ok || json.Depth(got) != n-1 {
		t.Errorf("Get: %v, Depth %d", ok, json.Depth(got))
	}
	if json.Text(v, "a") != "" {
		t.Errorf("Text: %q", json.Text(v, "a"))
	}
}

// memory of a piece of an answer or an argument, with its spare room.
type memory struct {
	from, to uintptr
	list     bool
}

func ofText(s string) memory {
	from := uintptr(unsafe.Pointer(unsafe.StringData(s)))
	return memory{from, from + uintptr(len(s)), false}
}

func ofList[T any](l []T) memory {
	from := uintptr(unsafe.Pointer(unsafe.SliceData(l)))
	return memory{from, from + uintptr(cap(l))*unsafe.Sizeof(*new(T)), true}
}

// memories of all texts and lists in a value.
func memories(v api.Json) []memory {
	var all []memory
	depths(v, 0, func(v api.Json, _ int) {
		all = append(all, ofText(v.Text), ofList(v.Names), ofList(v.List))
		for _, name := range v.Names {
			all = append(all, ofText(name))
		}
	})
	return slices.DeleteFunc(all, func(m memory) bool { return m.from >= m.to })
}

// shared memory of answers and arguments, or of two lists of an answer?
func shared(answer, given []memory) bool {
	for i, a := range answer {
		overlaps := func(b memory) bool { return a.from < b.to && b.from < a.to }
		if slices.ContainsFunc(given, overlaps) {
			return true
		}
		if slices.ContainsFunc(answer[:i], func(b memory) bool { return a.list && b.list && overlaps(b) }) {
			return true
		}
	}
	return false
}

func TestParseKeepsNothing(t *testing.T) { // rule 5
	const s = `{"a":[1,"x",[],{}],"b":{"c":["y",[2.5,3]],"c":[null]},"a":"z","":[[1],[1],[1,2,3,4,5]]}`
	given := append(make([]byte, 0, 200), s...)
	spare := given[len(s):cap(given)]
	for i := range spare {
		spare[i] = '7'
	}
	v, e := json.Parse(given)
	want := valueOracle(t, []byte(s))
	if e != api.OK || !same(v, want) {
		t.Fatalf("%s %v", show(v), e)
	}
	if string(given) != s || !bytes.Equal(spare, bytes.Repeat([]byte("7"), len(spare))) {
		t.Errorf("Parse has changed its argument")
	}
	if shared(memories(v), []memory{ofList(given)}) {
		t.Errorf("what Parse answers shares memory")
	}
	again, _ := json.Parse(given)
	if shared(memories(v), memories(again)) {
		t.Errorf("two answers of Parse share memory")
	}
	clear(given[:cap(given)])
	if !same(v, want) {
		t.Errorf("Parse has kept its argument")
	}
	overwrite(v)
	if !same(again, want) {
		t.Errorf("two answers of Parse are one")
	}
}

// overwrite all that a value's lists have room for.
func overwrite(v api.Json) {
	for _, member := range v.List {
		overwrite(member)
	}
	for i := range v.List[:cap(v.List)] {
		v.List[:cap(v.List)][i] = text("overwritten")
	}
	for i := range v.Names[:cap(v.Names)] {
		v.Names[:cap(v.Names)][i] = "overwritten"
	}
}

// roomy value: each list has spare room, in which something stands.
func roomy(v api.Json) api.Json {
	names := append(slices.Clone(v.Names), "spare", "spare")
	var members []api.Json
	for _, member := range v.List {
		members = append(members, roomy(member))
	}
	members = append(members, text("spare"), list(text("spare")))
	return api.Json{Kind: v.Kind, Text: strings.Clone(v.Text), Names: names[:len(v.Names)], List: members[:len(v.List)]}
}

// sameRoom says whether two values are the same in their spare room too.
func sameRoom(a, b api.Json) bool {
	for i, member := range a.List {
		if !sameRoom(member, b.List[i]) {
			return false
		}
	}
	return same(a, b) && slices.Equal(a.Names[:cap(a.Names)], b.Names[:cap(b.Names)]) && slices.EqualFunc(a.List[:cap(a.List)], b.List[:cap(b.List)], same)
}

func TestGetKeepsNothing(t *testing.T) { // rule 5
	plain := valueOracle(t, []byte(`{"a":{"b":[1,"xyz",[],{}],"c":{"d":["y",[2.5,3]]}},"t":"text","n":12.5,"l":[[],[1],["s"]],"e":[]}`))
	v, untouched := roomy(plain), roomy(plain)
	for _, name := range plain.Names {
		name = strings.Clone(name)
		got, ok := json.Get(v, name)
		again, _ := json.Get(v, name)
		want, _ := getOracle(plain, name)
		if !ok || !same(got, want) {
			t.Fatalf("Get %q: %s %v", name, show(got), ok)
		}
		given := append(memories(v), ofText(name))
		if shared(memories(got), given) || shared(memories(got), memories(again)) {
			t.Errorf("what Get %q answers shares memory", name)
		}
		if s := json.Text(v, name); s != "" && shared([]memory{ofText(s)}, given) {
			t.Errorf("what Text %q answers shares memory", name)
		}
		overwrite(got)
		if !same(again, want) || !sameRoom(v, untouched) {
			t.Errorf("Get %q has kept what it answered", name)
		}
	}
	// Lists that are one in the argument are two in the answer.
	one := []api.Json{number("1"), number("2")}
	names := []string{"p", "q"}
	v = object([]string{"a"}, list(list(one...), list(one...), list(one[:1]...), object(names, one...), object(names, one...), list()))
	got, _ := json.Get(v, "a")
	if shared(memories(got), memories(v)) {
		t.Errorf("two lists of what Get answers share memory")
	}
	overwrite(got.List[0])
	if !same(got.List[1], list(number("1"), number("2"))) {
		t.Errorf("two lists of what Get answers are one")
	}
}

func TestOthersChangeNothing(t *testing.T) { // rule 5
	plain := valueOracle(t, []byte(`{"a":{"b":[1,"xyz",[],{}],"b":{"d":["y",[2.5,3]]}},"t":"text","l":[[],[1],["s"]]}`))
	wrong := object([]string{"a", "b"}, list(number("1"), number("01")), within(null(), "[{", 30))
	for _, p := range []api.Json{plain, wrong, text(strings.Clone("text")), number(strings.Clone("12.5"))} {
		v, untouched := roomy(p), roomy(p)
		s, e := json.Print(v)
		depth := json.Depth(v)
		if !sameRoom(v, untouched) {
			t.Errorf("Print or Depth has changed its argument: %s", show(v))
		}
		if s != "" && shared([]memory{ofText(s)}, memories(v)) {
			t.Errorf("what Print answers shares memory")
		}
		overwrite(v)
		if again, e2 := json.Print(untouched); again != s || e2 != e || json.Depth(untouched) != depth {
			t.Errorf("Print of the same: %q %v, then %q %v", s, e, again, e2)
		}
	}
}
