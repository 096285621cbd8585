package json_test

import (
	"bytes"
	library "encoding/json"
	"fmt"
	"math/rand"
	"regexp"
	"slices"
	"strings"
	"testing"
	"unicode/utf8"

	"broadsheet/api"
	"broadsheet/esc"
	"broadsheet/json"
)

const (
	numberForm = `-?(?:0|[1-9][0-9]*)(?:\.[0-9]+)?(?:[eE][+-]?[0-9]+)?`
	hex        = `[0-9a-fA-F]`
	textForm   = `"(?:[^"\\\x00-\x1f]|\\["\\/bfnrt]|` +
		`\\u[dD][89aAbB]` + hex + `{2}\\u[dD][c-fC-F]` + hex + `{2}|` +
		`\\u(?:[0-9a-ce-fA-CE-F]` + hex + `{3}|[dD][0-7]` + hex + `{2}))*"`
)

var (
	whitePattern  = regexp.MustCompile(`\A[ \t\n\r]*`)
	numberPattern = regexp.MustCompile(`\A` + numberForm + `\z`)
	piecePattern  = regexp.MustCompile(`\A(?:null|false|true|` + numberForm + `|` + textForm + `|[\[\]{},:])`)
)

// What may come next, by the pieces that may begin or be it.
const (
	aValue        = "[{\"0" // 0: also another number, null, false, true
	aValueOrEnd   = aValue + "]"
	aName         = "\""
	aNameOrEnd    = aName + "}"
	aColon        = ":"
	aCommaOrList  = ",]"
	aCommaOrBrace = ",}"
	nothing       = ""
)

// errorOracle goes from piece to piece with a stack of what is open, as the
// chapter's form has them.
func errorOracle(b []byte) api.Errno {
	if len(b) > 65536 {
		return api.ErrLong
	}
	open, next := "", aValue
	for rest := string(b); ; {
		rest = rest[len(whitePattern.FindString(rest)):]
		if rest == "" && next == nothing {
			return api.OK
		}
		piece := piecePattern.FindString(rest)
		if piece == "" || !utf8.ValidString(piece) {
			return api.ErrForm
		}
		rest = rest[len(piece):]
		first := piece[:1]
		if strings.ContainsAny(first, "-0123456789nft") {
			first = "0"
		}
		if !strings.Contains(next, first) {
			return api.ErrForm
		}
		switch {
		case first == "[" || first == "{":
			if len(open) == 24 {
				return api.ErrDeep
			}
			open += first
			next = map[string]string{"[": aValueOrEnd, "{": aNameOrEnd}[first]
			continue
		case first == ":":
			next = aValue
			continue
		case first == ",":
			next = map[string]string{"[": aValue, "{": aName}[open[len(open)-1:]]
			continue
		case first == "\"" && (next == aName || next == aNameOrEnd):
			next = aColon
			continue
		case first == "]" || first == "}":
			open = open[:len(open)-1]
		}
		next = behindValue(open)
	}
}

// behindValue is what may come behind one within what is open.
func behindValue(open string) string {
	switch {
	case open == "":
		return nothing
	case strings.HasSuffix(open, "["):
		return aCommaOrList
	}
	return aCommaOrBrace
}

// valueOracle is what the library reads, token by token, of what is a value.
func valueOracle(t *testing.T, b []byte) api.Json {
	t.Helper()
	decoder := library.NewDecoder(bytes.NewReader(b))
	decoder.UseNumber()
	return libraryValue(t, decoder)
}

func libraryValue(t *testing.T, decoder *library.Decoder) api.Json {
	t.Helper()
	token, err := decoder.Token()
	if err != nil {
		t.Fatal(err)
	}
	switch x := token.(type) {
	case bool:
		if x {
			return api.Json{Kind: api.JsonTrue}
		}
		return api.Json{Kind: api.JsonFalse}
	case library.Number:
		return api.Json{Kind: api.JsonNumber, Text: string(x)}
	case string:
		return api.Json{Kind: api.JsonText, Text: x}
	case library.Delim:
		v := api.Json{Kind: api.JsonList}
		if x == '{' {
			v.Kind = api.JsonObject
		}
		for decoder.More() {
			if x == '{' {
				v.Names = append(v.Names, libraryValue(t, decoder).Text)
			}
			v.List = append(v.List, libraryValue(t, decoder))
		}
		if _, err := decoder.Token(); err != nil {
			t.Fatal(err)
		}
		return v
	}
	return api.Json{Kind: api.JsonNull}
}

// same value: no list and an empty one are one.
func same(a, b api.Json) bool {
	return a.Kind == b.Kind && a.Text == b.Text && slices.Equal(a.Names, b.Names) && slices.EqualFunc(a.List, b.List, same)
}

// show a value, cut where it is long.
func show(v api.Json) string {
	return fmt.Sprintf("%.300s", fmt.Sprintf("%#v", v))
}

// sameParse holds Parse against the oracles.
func sameParse(t *testing.T, s string) (api.Json, bool) {
	t.Helper()
	want := api.Json{}
	wrong := errorOracle([]byte(s))
	if wrong == api.OK {
		want = valueOracle(t, []byte(s))
	}
	v, e := json.Parse([]byte(s))
	if e != wrong || !same(v, want) {
		t.Fatalf("Parse(%.200q): %s %v, not %s %v", s, show(v), e, show(want), wrong)
	}
	return v, e == api.OK
}

// depths tells each value in v, with how many others it is within.
func depths(v api.Json, within int, tell func(v api.Json, within int)) {
	tell(v, within)
	for _, member := range v.List {
		depths(member, within+1, tell)
	}
}

// rightOracle asks each rule of each value.
func rightOracle(v api.Json) bool {
	right := true
	depths(v, 0, func(v api.Json, within int) {
		kind := map[api.JsonKind]string{0: "-", 1: "-", 2: "-", 3: "number", 4: "text", 5: "list", 6: "object"}[v.Kind]
		for _, broken := range []bool{
			kind == "",
			kind == "number" && !numberPattern.MatchString(v.Text),
			kind == "text" && !utf8.ValidString(v.Text),
			kind == "object" && slices.ContainsFunc(v.Names, func(name string) bool { return !utf8.ValidString(name) }),
			kind == "object" && len(v.Names) != len(v.List),
			kind != "number" && kind != "text" && v.Text != "",
			kind != "list" && kind != "object" && len(v.List) > 0,
			kind != "object" && len(v.Names) > 0,
			(kind == "list" || kind == "object") && within >= 24,
		} {
			right = right && !broken
		}
	})
	return right
}

// printOracle puts texts together from within to without.
func printOracle(v api.Json) string {
	var members []string
	for i, member := range v.List {
		name := ""
		if v.Kind == api.JsonObject {
			name = esc.Json(v.Names[i]) + ":"
		}
		members = append(members, name+printOracle(member))
	}
	switch v.Kind {
	case api.JsonNumber:
		return v.Text
	case api.JsonText:
		return esc.Json(v.Text)
	case api.JsonList:
		return "[" + strings.Join(members, ",") + "]"
	case api.JsonObject:
		return "{" + strings.Join(members, ",") + "}"
	}
	return []string{"null", "false", "true"}[v.Kind]
}

// samePrint holds Print against the oracles, and what it prints against Parse.
func samePrint(t *testing.T, v api.Json) {
	t.Helper()
	want, wrong := "", api.ErrArg
	if rightOracle(v) {
		want, wrong = printOracle(v), api.OK
	}
	s, e := json.Print(v)
	if s != want || e != wrong {
		t.Fatalf("Print(%s): %.200q %v, not %.200q %v", show(v), s, e, want, wrong)
	}
	if e != api.OK {
		return
	}
	again, e := json.Parse([]byte(s))
	if len(s) > 65536 {
		if e != api.ErrLong {
			t.Fatalf("Parse of %d bytes: %v", len(s), e)
		}
		return
	}
	if e != api.OK || !same(again, v) {
		t.Fatalf("Parse(Print(%s)): %s %v", show(v), show(again), e)
	}
}

func depthOracle(v api.Json) int {
	switch v.Kind {
	case api.JsonList, api.JsonObject:
		all := []int{0}
		for _, member := range v.List {
			all = append(all, depthOracle(member))
		}
		return slices.Max(all) + 1
	}
	return 0
}

// getOracle goes from the first member on, and lets a later one stand in the
// place of an earlier one.
func getOracle(v api.Json, name string) (found api.Json, ok bool) {
	for i, member := range v.List {
		if v.Kind == api.JsonObject && i < len(v.Names) && v.Names[i] == name {
			found, ok = member, true
		}
	}
	return found, ok
}

// sameAsked holds Depth, Get and Text against the oracles, at each name of v.
func sameAsked(t *testing.T, v api.Json) {
	t.Helper()
	if got := json.Depth(v); got != depthOracle(v) {
		t.Fatalf("Depth(%s): %d", show(v), got)
	}
	for _, name := range append([]string{"", "a", "none"}, v.Names...) {
		want, ok := getOracle(v, name)
		if got, found := json.Get(v, name); found != ok || !same(got, want) {
			t.Fatalf("Get(%s, %q): %s %v, not %s %v", show(v), name, show(got), found, show(want), ok)
		}
		text := ""
		if want.Kind == api.JsonNumber || want.Kind == api.JsonText {
			text = want.Text
		}
		if got := json.Text(v, name); got != text {
			t.Fatalf("Text(%s, %q): %q, not %q", show(v), name, got, text)
		}
	}
}

// rows tells every row of up to most of the pieces.
func rows(pieces []string, most int, tell func(string)) {
	tell("")
	if most == 0 {
		return
	}
	for _, p := range pieces {
		rows(pieces, most-1, func(row string) { tell(p + row) })
	}
}

// long is how many pieces a row has, one fewer in short runs.
func long(most int) int {
	if testing.Short() {
		return most - 1
	}
	return most
}

func TestRowsOfParse(t *testing.T) { // P7.1
	rows([]string{"[", "]", "{", "}", ",", ":", `"a"`, "1", " "}, long(6), func(row string) {
		sameParse(t, row)
	})
	rows([]string{"null", "true", "false", "nul", "0", "-", ".", "e", "\n", `"`, `\`, "[", "]", ","}, long(4), func(row string) {
		sameParse(t, row)
		sameParse(t, "["+row+"]")
	})
	rows([]string{`"`, `\`, "/", "n", `\u`, "d83d", "DE00", "0041", "\x1f", "é", "\xff"}, long(5), func(row string) {
		sameParse(t, `"`+row)
	})
}

func TestRowsOfDeep(t *testing.T) { // P7.1
	pieces := []string{"[", "]", "{", "}", ",", ":", `"a"`, "0"}
	for _, ahead := range []string{strings.Repeat("[", 22), strings.Repeat(`{"a":`, 23), strings.Repeat("[", 24), strings.Repeat(`[{"":`, 12), strings.Repeat("[", 23) + "{"} {
		rows(pieces, long(4), func(row string) {
			sameParse(t, ahead+row)
		})
	}
}

// TestNeighbours puts each byte into and in the place of each byte of some
// texts, leaves each one out, and ends behind it.
func TestNeighbours(t *testing.T) { // P7.1
	for _, s := range []string{
		` { "a" : [ 1 , "x" ] , "a" : null } `, `[-0.5e+3,true,false,{},[]]`, `"\ud83d\ude00\n\u0041é"`,
		strings.Repeat("[", 24) + strings.Repeat("]", 24),
	} {
		for at := range len(s) {
			sameParse(t, s[:at])
			sameParse(t, s[:at]+s[at+1:])
			for c := range 0x100 {
				one := string([]byte{byte(c)})
				sameParse(t, s[:at]+one+s[at+1:])
				sameParse(t, s[:at]+one+s[at:])
			}
		}
	}
}

// maker makes values, and bytes that are nearly some, from numbers.
type maker struct{ random *rand.Rand }

func (m maker) one(of ...string) string { return of[m.random.Intn(len(of))] }

func (m maker) text() string {
	var b strings.Builder
	for range m.random.Intn(4) {
		b.WriteString(m.one("a", "b", "é", "😀", "\"", "\\", "\n", "\x00", "\x7f", "<", "\u2028", "/", "\ufffd", " "))
	}
	return b.String()
}

func (m maker) number() string {
	return m.one("0", "-0", "1", "-12", "0.5", "10.25", "1e5", "1E+05", "-0.0e-0", "90071992547409930")
}

// right value of at most so many lists and objects within one another.
func (m maker) right(depth int) api.Json {
	kind := api.JsonKind(m.random.Intn(7))
	if depth == 0 {
		kind = api.JsonKind(m.random.Intn(5))
	}
	v := api.Json{Kind: kind}
	switch kind {
	case api.JsonNumber:
		v.Text = m.number()
	case api.JsonText:
		v.Text = m.text()
	case api.JsonList, api.JsonObject:
		for range m.random.Intn(4) {
			v.List = append(v.List, m.right(depth-1))
			if kind == api.JsonObject {
				v.Names = append(v.Names, m.one("a", "b", "", m.text()))
			}
		}
	}
	return v
}

// spoil one thing somewhere in a value, most often.
func (m maker) spoil(v *api.Json) {
	if len(v.List) > 0 && m.random.Intn(3) > 0 {
		m.spoil(&v.List[m.random.Intn(len(v.List))])
		return
	}
	switch m.random.Intn(7) {
	case 0:
		v.Kind = api.JsonKind(m.random.Intn(10) - 1)
	case 1:
		v.Text = m.one("", "a", "1", "01", "1.", "\xff", m.text())
	case 2:
		v.Names = append(v.Names, m.one("", "a", "\xff"))
	case 3:
		v.Names = v.Names[:max(0, len(v.Names)-1)]
	case 4:
		v.List = append(v.List, m.right(1))
	case 5:
		v.List = v.List[:max(0, len(v.List)-1)]
	case 6:
		for range m.random.Intn(25) {
			*v = api.Json{Kind: api.JsonList, List: []api.Json{*v}}
		}
	}
}

// pieces of values, one behind the other, with and without order.
func (m maker) pieces() string {
	var b strings.Builder
	for range m.random.Intn(12) {
		b.WriteString(m.one("[", "]", "{", "}", ",", ":", " ", "null", "true", "false", m.number(), esc.Json(m.text()), `"`, `\`, "\xff", "\x00", "\f", "é", "+", ".5", "[[[[[[[[[[[[", `{"a":`))
	}
	return b.String()
}

func TestMadeUpValues(t *testing.T) { // P7.1 to P7.3
	m := maker{rand.New(rand.NewSource(7))}
	times := 60000
	if testing.Short() {
		times = 6000
	}
	for range times {
		v := m.right(m.random.Intn(6))
		samePrint(t, v)
		sameAsked(t, v)
		s, e := json.Print(v)
		if e != api.OK {
			t.Fatalf("Print(%s): %v", show(v), e)
		}
		at := m.random.Intn(len(s) + 1)
		sameParse(t, s[:at]+m.pieces()+s[at:])
		sameParse(t, m.pieces())
		m.spoil(&v)
		samePrint(t, v)
		sameAsked(t, v)
	}
}

func FuzzCalls(f *testing.F) { // P7.1 to P7.3
	f.Add(`{"a":[1,"x"],"a":null}`, int64(1))
	f.Add(strings.Repeat("[", 25), int64(2))
	f.Add("\" \xff\\u", int64(3))
	f.Fuzz(func(t *testing.T, s string, seed int64) {
		v, ok := sameParse(t, s)
		if ok {
			samePrint(t, v)
			sameAsked(t, v)
		}
		m := maker{rand.New(rand.NewSource(seed))}
		m.spoil(&v)
		samePrint(t, v)
		sameAsked(t, v)
	})
}
