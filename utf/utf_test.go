package utf_test

import (
	"fmt"
	"math"
	"slices"
	"strings"
	"testing"
	"unsafe"

	"broadsheet/api"
	"broadsheet/utf"
)

const bad = "\xef\xbf\xbd" // the text of FFFD, in bytes

// edgePoints has the first and the last code point of each length, and those around gaps.
var edgePoints = []struct {
	point int
	text  string
}{
	{0, "\x00"},
	{0x7F, "\x7f"},
	{0x80, "\xc2\x80"},
	{0x7FF, "\xdf\xbf"},
	{0x800, "\xe0\xa0\x80"},
	{0xD7FF, "\xed\x9f\xbf"},
	{0xE000, "\xee\x80\x80"},
	{0xFFFD, "\xef\xbf\xbd"},
	{0xFFFE, "\xef\xbf\xbe"},
	{0xFFFF, "\xef\xbf\xbf"},
	{0x10000, "\xf0\x90\x80\x80"},
	{0x10FFFF, "\xf4\x8f\xbf\xbf"},
}

// badTexts are no texts, with what their bytes are taken for.
var badTexts = []struct {
	name, text string
	points     []int
}{
	{"a byte that begins nothing", "\xff", []int{0xFFFD}},
	{"between others", "a\xffb", []int{'a', 0xFFFD, 'b'}},
	{"each byte by itself", "\xff\xfe", []int{0xFFFD, 0xFFFD}},
	{"a byte that only goes on", "\x80", []int{0xFFFD}},
	{"one byte too many", "\xc2\x80\x80", []int{0x80, 0xFFFD}},
	{"0 in two bytes", "\xc0\x80", []int{0xFFFD, 0xFFFD}},
	{"7F in two bytes", "\xc1\xbf", []int{0xFFFD, 0xFFFD}},
	{"0 in three bytes", "\xe0\x80\x80", []int{0xFFFD, 0xFFFD, 0xFFFD}},
	{"7FF in three bytes", "\xe0\x9f\xbf", []int{0xFFFD, 0xFFFD, 0xFFFD}},
	{"0 in four bytes", "\xf0\x80\x80\x80", []int{0xFFFD, 0xFFFD, 0xFFFD, 0xFFFD}},
	{"FFFF in four bytes", "\xf0\x8f\xbf\xbf", []int{0xFFFD, 0xFFFD, 0xFFFD, 0xFFFD}},
	{"D800", "\xed\xa0\x80", []int{0xFFFD, 0xFFFD, 0xFFFD}},
	{"DBFF", "\xed\xaf\xbf", []int{0xFFFD, 0xFFFD, 0xFFFD}},
	{"DC00", "\xed\xb0\x80", []int{0xFFFD, 0xFFFD, 0xFFFD}},
	{"DFFF", "\xed\xbf\xbf", []int{0xFFFD, 0xFFFD, 0xFFFD}},
	{"110000", "\xf4\x90\x80\x80", []int{0xFFFD, 0xFFFD, 0xFFFD, 0xFFFD}},
	{"140000", "\xf5\x80\x80\x80", []int{0xFFFD, 0xFFFD, 0xFFFD, 0xFFFD}},
	{"five bytes", "\xf8\x88\x80\x80\x80", []int{0xFFFD, 0xFFFD, 0xFFFD, 0xFFFD, 0xFFFD}},
	{"cut off behind one of two", "a\xc3", []int{'a', 0xFFFD}},
	{"cut off behind one of three", "a\xe2", []int{'a', 0xFFFD}},
	{"cut off behind two of three", "a\xe2\x82", []int{'a', 0xFFFD, 0xFFFD}},
	{"cut off behind three of four", "a\xf0\x9f\x98", []int{'a', 0xFFFD, 0xFFFD, 0xFFFD}},
	{"cut off by another", "\xe2\x82a", []int{0xFFFD, 0xFFFD, 'a'}},
	{"cut off by a longer one", "\xf0\x9f\u00e9", []int{0xFFFD, 0xFFFD, 0xE9}},
	{"FFFD itself beside a bad byte", "\ufffd\xff", []int{0xFFFD, 0xFFFD}},
}

func TestValid(t *testing.T) { // P1.1
	for _, s := range []string{"", "a", "aé€😀", bad, " \t\n"} {
		if !utf.Valid(s) {
			t.Errorf("Valid(%q) is false", s)
		}
	}
	for _, e := range edgePoints {
		if !utf.Valid(e.text) || !utf.Valid("x"+e.text+"y") {
			t.Errorf("Valid of %X is false", e.point)
		}
	}
	for _, b := range badTexts {
		if utf.Valid(b.text) {
			t.Errorf("%s: Valid(%q) is true", b.name, b.text)
		}
	}
}

func TestPoints(t *testing.T) { // P1.1
	if p := utf.Points(""); len(p) != 0 {
		t.Errorf("Points of nothing: %X", p)
	}
	if p := utf.Points("a\u00e9\xff"); !slices.Equal(p, []int{0x61, 0xE9, 0xFFFD}) {
		t.Errorf("the chapter's example: %X", p)
	}
	for _, e := range edgePoints {
		if p := utf.Points("a" + e.text + "b"); !slices.Equal(p, []int{'a', e.point, 'b'}) {
			t.Errorf("Points of %X: %X", e.point, p)
		}
	}
	for _, b := range badTexts {
		if p := utf.Points(b.text); !slices.Equal(p, b.points) {
			t.Errorf("%s: Points(%q): %X, not %X", b.name, b.text, p, b.points)
		}
	}
}

func TestMake(t *testing.T) { // P1.1
	for _, none := range [][]int{nil, {}} {
		if s, e := utf.Make(none); s != "" || e != api.OK {
			t.Errorf("Make of none: %q %v", s, e)
		}
	}
	if s, e := utf.Make([]int{0x61, 0xE9, 0x20AC, 0x1F600, 0xFFFD}); s != "aé€😀"+bad || e != api.OK {
		t.Errorf("%q %v", s, e)
	}
	for _, x := range edgePoints {
		if s, e := utf.Make([]int{x.point, 'a'}); s != x.text+"a" || e != api.OK {
			t.Errorf("Make of %X: %q %v", x.point, s, e)
		}
	}
}

func TestMakeRefuses(t *testing.T) { // P1.1
	wrong := []int{
		-1, 0xD800, 0xDBFF, 0xDC00, 0xDFFF, 0x110000, 0x7FFFFFFF,
		// These would be code points if only their lower 32 bits counted.
		1 << 32, 1<<32 + 'a', math.MinInt, math.MinInt + 'a', math.MaxInt,
	}
	for _, p := range wrong {
		for _, points := range [][]int{{p}, {p, 'a'}, {'a', p}, {'a', p, 'b'}} {
			if s, e := utf.Make(points); s != "" || e != api.ErrArg {
				t.Errorf("Make(%X): %q %v", points, s, e)
			}
		}
	}
}

func TestEveryPoint(t *testing.T) { // P1.1, P1.2
	for p := -1; p <= 0x110000; p++ {
		s, e := utf.Make([]int{p})
		if p < 0 || p > 0x10FFFF || p >= 0xD800 && p <= 0xDFFF {
			if s != "" || e != api.ErrArg {
				t.Fatalf("Make of %X: %q %v", p, s, e)
			}
			continue
		}
		if e != api.OK || s != string(rune(p)) {
			t.Fatalf("Make of %X: %q %v", p, s, e)
		}
		if !utf.Valid(s) || !slices.Equal(utf.Points(s), []int{p}) || utf.Repair(s) != s {
			t.Fatalf("%X is not itself again", p)
		}
		plain := s
		if p < 0x20 && p != 9 && p != 0xA && p != 0xD || p == 0xFFFE || p == 0xFFFF {
			plain = ""
		}
		if got := utf.Plain(s); got != plain {
			t.Fatalf("Plain of %X: %q", p, got)
		}
		squeezed := "a" + s + "b"
		if p == 0x20 || p == 9 || p == 0xA || p == 0xD || p == 0xC {
			squeezed = "a b"
		}
		if got := utf.Squeeze("a" + s + "b"); got != squeezed {
			t.Fatalf("Squeeze of %X: %q", p, got)
		}
	}
}

func TestRepair(t *testing.T) { // P1.2
	for _, s := range []string{"", "a", " a  b\n", "aé€😀", bad, "\x00\x01\ufffe\uffff"} {
		if got := utf.Repair(s); got != s {
			t.Errorf("Repair(%q): %q", s, got)
		}
	}
	for _, b := range badTexts {
		if got, want := utf.Repair(b.text), textOf(b.points); got != want {
			t.Errorf("%s: Repair(%q): %q, not %q", b.name, b.text, got, want)
		}
	}
}

func TestPlain(t *testing.T) { // P1.2
	for _, c := range []struct{ s, want string }{
		{"", ""},
		{"a b", "a b"},
		{"\x00\x01\x08\x0b\x0c\x0e\x1f", ""},
		{"a\x00b\x1fc", "abc"},
		{"\t\n\r\x20\x7f\u0080", "\t\n\r\x20\x7f\u0080"},
		{"\ufffe\uffff", ""},
		{"\ufffd", bad},
		{"\ud7ff\ue000\U00010000\U0001fffe\U0001ffff\U0010ffff", "\ud7ff\ue000\U00010000\U0001fffe\U0001ffff\U0010ffff"},
		{"a\x00\xff\ufffeb", "a" + bad + "b"},
		{"\xef\xbf", bad + bad},
		{"\xe2\x00\x82", bad + bad},
	} {
		if got := utf.Plain(c.s); got != c.want {
			t.Errorf("Plain(%q): %q, not %q", c.s, got, c.want)
		}
	}
}

func TestSqueeze(t *testing.T) { // P1.3
	for _, c := range []struct{ s, want string }{
		{"", ""},
		{" ", ""},
		{" \t\n\r\f", ""},
		{"a", "a"},
		{"  a \n b ", "a b"},
		{" A  b ", "A b"},
		{"a \t\n\r\fb", "a b"},
		{"a b c", "a b c"},
		{"\u00a0a\u2003b\u0085\v\u3000", "\u00a0a\u2003b\u0085\v\u3000"},
		{"a \v b", "a \v b"},
		{" \x00 ", "\x00"},
		{"\xff \xff", bad + " " + bad},
		{" \xe2 \x82 ", bad + " " + bad},
		{"\ufffe  é", "\ufffe é"},
	} {
		if got := utf.Squeeze(c.s); got != c.want {
			t.Errorf("Squeeze(%q): %q, not %q", c.s, got, c.want)
		}
	}
	for _, blank := range []string{" ", "\t", "\n", "\r", "\f"} {
		for _, row := range []string{blank, blank + blank, " " + blank, blank + " "} {
			if got := utf.Squeeze(row + "a" + row + "b" + row); got != "a b" {
				t.Errorf("Squeeze with %q: %q", row, got)
			}
		}
	}
}

func TestCut(t *testing.T) { // P1.3
	for _, c := range []struct {
		s    string
		n    int
		want string
	}{
		{"abcd", 3, "ab…"},
		{"abcd", 4, "abcd"},
		{"abcd", 5, "abcd"},
		{"abcd", 2, "a…"},
		{"abcd", 1, "…"},
		{"abcd", 0, ""},
		{"abcd", -1, ""},
		{"abcd", math.MinInt, ""},
		{"abcd", math.MaxInt, "abcd"},
		{"", math.MinInt, ""},
		{"", -1, ""},
		{"", 0, ""},
		{"", 1, ""},
		{"a", 1, "a"},
		{"aé€😀", 4, "aé€😀"},
		{"aé€😀", 3, "aé…"},
		{"é€😀a", 2, "é…"},
		{"\xff\xff\xff", 3, bad + bad + bad},
		{"\xff\xff\xff", 2, bad + "…"},
		{"\xe2\x82", 2, bad + bad},
		{"\xe2\x82", 1, "…"},
		{"\xff", 0, ""},
		{"a\xffb", 9, "a" + bad + "b"},
		{"ab…", 3, "ab…"},
		{" a  b ", 4, " a …"},
		{"\x00\ufffe\x01", 2, "\x00…"},
	} {
		if got := utf.Cut(c.s, c.n); got != c.want {
			t.Errorf("Cut(%q, %d): %q, not %q", c.s, c.n, got, c.want)
		}
	}
}

func TestCutAtEachLength(t *testing.T) { // P1.3
	s := "a\xffé \xe2\x82€😀\x00"
	points := oracle(s)
	for n := 1; n < len(points); n++ {
		want := textOf(points[:n-1]) + "\u2026"
		if got := utf.Cut(s, n); got != want {
			t.Errorf("Cut to %d: %q, not %q", n, got, want)
		}
	}
	for n := len(points); n < len(points)+3; n++ {
		if got := utf.Cut(s, n); got != textOf(points) {
			t.Errorf("Cut to %d: %q", n, got)
		}
	}
}

// TestRowsOfBytes goes through every row of up to four bytes out of those at
// which the forms of UTF-8 change, and holds all calls against the chapter's words.
func TestRowsOfBytes(t *testing.T) { // P1.1, P1.2, P1.3
	edges := []byte("\x00\x09 a\x7f\x80\x8f\x90\x9f\xa0\xbf\xc0\xc1\xc2\xdf\xe0\xe1\xed\xee\xef\xf0\xf1\xf4\xf5\xff")
	rows := []string{""}
	for range 4 {
		var longer []string
		for _, row := range rows {
			for _, b := range edges {
				longer = append(longer, row+string([]byte{b}))
			}
		}
		for _, row := range longer {
			if fault := compare(row); fault != "" {
				t.Fatal(fault)
			}
		}
		rows = longer
	}
}

func TestLongTexts(t *testing.T) {
	const n = 1 << 20
	if got := utf.Repair(strings.Repeat("\xff", n)); got != strings.Repeat(bad, n) {
		t.Errorf("Repair of many bad bytes: %d bytes", len(got))
	}
	if got := utf.Squeeze(strings.Repeat(" \n", n) + "a" + strings.Repeat("\t", n)); got != "a" {
		t.Errorf("Squeeze of many blanks: %d bytes", len(got))
	}
	if got := utf.Cut(strings.Repeat("é", n), n-1); got != strings.Repeat("é", n-2)+"…" {
		t.Errorf("Cut of a long text: %d bytes", len(got))
	}
	if got := utf.Points(strings.Repeat("€", n)); len(got) != n {
		t.Errorf("Points of a long text: %d", len(got))
	}
}

func TestArgumentsStay(t *testing.T) {
	room := []int{'a', 0x20AC, 7, 8}
	utf.Make(room[:2])
	utf.Make([]int{-1})
	if !slices.Equal(room, []int{'a', 0x20AC, 7, 8}) {
		t.Errorf("Make changed its argument: %v", room)
	}
}

func TestAnswersAreNew(t *testing.T) {
	p, q := utf.Points("abc"), utf.Points("abc")
	for i := range p[:cap(p)] {
		p[:cap(p)][i] = -1
	}
	if !slices.Equal(q, []int{'a', 'b', 'c'}) || !slices.Equal(utf.Points("abc"), q) {
		t.Errorf("two answers of Points share memory")
	}
	s := strings.Repeat("a", 3) // not a constant, so that it has memory of its own
	for name, answer := range map[string]string{
		"Repair": utf.Repair(s), "Plain": utf.Plain(s), "Squeeze": utf.Squeeze(s), "Cut": utf.Cut(s, 3),
	} {
		if answer != s {
			t.Errorf("%s(%q): %q", name, s, answer)
		}
		if unsafe.StringData(answer) == unsafe.StringData(s) {
			t.Errorf("what %s answers shares memory with its argument", name)
		}
	}
}

// compare says where a call on s answers otherwise than the chapter's words, or "".
func compare(s string) string {
	points := oracle(s)
	repaired := textOf(points)
	if got := utf.Points(s); !slices.Equal(got, points) {
		return fmt.Sprintf("Points(%q): %X, not %X", s, got, points)
	}
	if got, want := utf.Valid(s), repaired == s; got != want {
		return fmt.Sprintf("Valid(%q): %v", s, got)
	}
	if got, e := utf.Make(points); got != repaired || e != api.OK {
		return fmt.Sprintf("Make(%X): %q %v", points, got, e)
	}
	if got := utf.Repair(s); got != repaired {
		return fmt.Sprintf("Repair(%q): %q, not %q", s, got, repaired)
	}
	drop := strings.NewReplacer("\x00", "", "\ufffe", "", "\uffff", "")
	if got, want := utf.Plain(s), drop.Replace(repaired); got != want {
		return fmt.Sprintf("Plain(%q): %q, not %q", s, got, want)
	}
	blank := func(r rune) bool { return r == ' ' || r == '\t' }
	if got, want := utf.Squeeze(s), strings.Join(strings.FieldsFunc(repaired, blank), " "); got != want {
		return fmt.Sprintf("Squeeze(%q): %q, not %q", s, got, want)
	}
	if n := len(points); n > 0 {
		if got := utf.Cut(s, n); got != repaired {
			return fmt.Sprintf("Cut(%q, %d): %q, not %q", s, n, got, repaired)
		}
		want := ""
		if n > 1 {
			want = textOf(points[:n-2]) + "\u2026"
		}
		if got := utf.Cut(s, n-1); got != want {
			return fmt.Sprintf("Cut(%q, %d): %q, not %q", s, n-1, got, want)
		}
	}
	return ""
}

// oracle reads bytes by the definition of UTF-8 alone, without the library.
func oracle(s string) []int {
	var points []int
	for len(s) > 0 {
		p, width := pointAt(s)
		points = append(points, p)
		s = s[width:]
	}
	return points
}

func pointAt(s string) (point, width int) {
	forms := []struct{ mask, lead, first, last int }{
		{0x80, 0x00, 0, 0x7F},
		{0xE0, 0xC0, 0x80, 0x7FF},
		{0xF0, 0xE0, 0x800, 0xFFFF},
		{0xF8, 0xF0, 0x10000, 0x10FFFF},
	}
	for more, f := range forms {
		if int(s[0])&f.mask != f.lead || len(s) <= more {
			continue
		}
		p := int(s[0]) &^ f.mask
		goesOn := true
		for _, b := range []byte(s[1 : 1+more]) {
			goesOn = goesOn && b&0xC0 == 0x80
			p = p<<6 | int(b&0x3F)
		}
		if goesOn && p >= f.first && p <= f.last && (p < 0xD800 || p > 0xDFFF) {
			return p, more + 1
		}
	}
	return 0xFFFD, 1
}

// textOf writes code points by the definition of UTF-8 alone, without the library.
func textOf(points []int) string {
	var b []byte
	for _, p := range points {
		switch {
		case p < 0x80:
			b = append(b, byte(p))
		case p < 0x800:
			b = append(b, 0xC0|byte(p>>6), 0x80|byte(p&0x3F))
		case p < 0x10000:
			b = append(b, 0xE0|byte(p>>12), 0x80|byte(p>>6&0x3F), 0x80|byte(p&0x3F))
		default:
			b = append(b, 0xF0|byte(p>>18), 0x80|byte(p>>12&0x3F), 0x80|byte(p>>6&0x3F), 0x80|byte(p&0x3F))
		}
	}
	return string(b)
}
