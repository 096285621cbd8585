package xml_test

import (
	library "encoding/xml"
	"fmt"
	"io"
	"maps"
	"math/rand"
	"regexp"
	"slices"
	"strconv"
	"strings"
	"testing"
	"unicode/utf8"

	"broadsheet/api"
	"broadsheet/esc"
	"broadsheet/xml"
)

const (
	xmlSpace      = "http://www.w3.org/XML/1998/namespace"
	nameForm      = `[A-Za-z_[:^ascii:]][A-Za-z0-9._\-[:^ascii:]]*`
	qualifiedForm = `(?:` + nameForm + `:)?` + nameForm
	blanksForm    = `[ \t\n\r]*`
	referenceForm = `&(?:amp|lt|gt|quot|apos|#[0-9]{1,7}|#[xX][0-9A-Fa-f]{1,6});`
	valueForm     = `"(?:[^"<&]|` + referenceForm + `)*"|'(?:[^'<&]|` + referenceForm + `)*'`
	attrForm      = `[ \t\n\r]` + blanksForm + `(` + qualifiedForm + `)` + blanksForm + `=` + blanksForm + `(` + valueForm + `)`
)

var (
	namePattern      = regexp.MustCompile(`\A` + nameForm + `\z`)
	blanksPattern    = regexp.MustCompile(`\A` + blanksForm + `\z`)
	referencePattern = regexp.MustCompile(referenceForm)
	attrPattern      = regexp.MustCompile(attrForm)
	remarkPattern    = regexp.MustCompile(`\A<!--(?:[^-]|-[^-])*-->`)
	orderPattern     = regexp.MustCompile(`\A<\?` + nameForm + `(?s:.*?)\?>`)
	dataPattern      = regexp.MustCompile(`\A<!\[CDATA\[((?s:.*?))\]\]>`)
	startPattern     = regexp.MustCompile(`\A<(` + qualifiedForm + `)((?:` + attrForm + `)*)` + blanksForm + `(/?)>`)
	endPattern       = regexp.MustCompile(`\A</(` + qualifiedForm + `)` + blanksForm + `>`)
	textPattern      = regexp.MustCompile(`\A(?:[^<&]|` + referenceForm + `)+`)
	returnPattern    = regexp.MustCompile(`\r\n?`)
	missingPattern   = regexp.MustCompile(`[\x00-\x08\x0b\x0c\x0e-\x1f\x{fffe}\x{ffff}]`)
)

// frame is an element that isn't closed yet, or what is around the whole.
type frame struct {
	written string
	node    api.Node
	spaces  map[string]string
}

// say more text at the end of an element.
func (f *frame) say(s string) {
	if s == "" {
		return
	}
	if last := len(f.node.Kids) - 1; last >= 0 && f.node.Kids[last].Name == "" {
		f.node.Kids[last].Text += s
		return
	}
	f.node.Kids = append(f.node.Kids, api.Node{Text: s})
}

// parseOracle goes from piece to piece, each found by a pattern, with a stack of
// what is open, as the chapter's form has it.
func parseOracle(b []byte) (api.Node, api.Errno) {
	if len(b) > 65536 {
		return api.Node{}, api.ErrLong
	}
	rest := strings.TrimPrefix(string(b), "\ufeff")
	if !utf8.ValidString(rest) || missingPattern.MatchString(rest) {
		return api.Node{}, api.ErrForm
	}
	open := []*frame{{spaces: map[string]string{"": "", "xml": xmlSpace}}}
	for rest != "" {
		piece, e := pieceOracle(rest, &open)
		if e != api.OK {
			return api.Node{}, e
		}
		rest = rest[len(piece):]
	}
	all := open[0].node.Kids
	if len(open) != 1 || len(all) != 1 {
		return api.Node{}, api.ErrForm
	}
	return all[0], api.OK
}

// pieceOracle answers the piece at the front, and puts it into what is open.
func pieceOracle(rest string, open *[]*frame) (string, api.Errno) {
	inner := (*open)[len(*open)-1]
	outermost := len(*open) == 1
	if piece := remarkPattern.FindString(rest) + orderPattern.FindString(rest); piece != "" {
		return piece, api.OK
	}
	if m := textPattern.FindString(rest); m != "" {
		if outermost && blanksPattern.MatchString(m) {
			return m, api.OK
		}
		text, ok := saidOracle(m)
		if outermost || !ok || strings.Contains(m, "]]>") {
			return "", api.ErrForm
		}
		inner.say(text)
		return m, api.OK
	}
	if m := dataPattern.FindStringSubmatch(rest); m != nil && !outermost {
		inner.say(feedsOracle(m[1]))
		return m[0], api.OK
	}
	if m := endPattern.FindStringSubmatch(rest); m != nil && !outermost && m[1] == inner.written {
		*open = (*open)[:len(*open)-1]
		around := (*open)[len(*open)-1]
		around.node.Kids = append(around.node.Kids, inner.node)
		return m[0], api.OK
	}
	m := startPattern.FindStringSubmatch(rest)
	if m == nil || outermost && len(inner.node.Kids) > 0 {
		return "", api.ErrForm
	}
	f, ok := elementOracle(m[1], m[2], inner.spaces)
	switch {
	case !ok:
		return "", api.ErrForm
	case len(*open) > 24:
		return "", api.ErrDeep
	case m[len(m)-1] == "/":
		inner.node.Kids = append(inner.node.Kids, f.node)
	default:
		*open = append(*open, f)
	}
	return m[0], api.OK
}

// elementOracle takes the attributes of a start tag one by one, first those that
// say what prefixes stand for.
func elementOracle(written, attrs string, around map[string]string) (*frame, bool) {
	f := &frame{written: written, spaces: maps.Clone(around)}
	var declared, named []string
	all := attrPattern.FindAllStringSubmatch(attrs, -1)
	for _, m := range all {
		value, ok := saidOracle(m[2][1 : len(m[2])-1])
		prefix, is := strings.CutPrefix(m[1], "xmlns:")
		switch {
		case !ok || is && value == "":
			return nil, false
		case is:
			f.spaces[prefix] = value
		case m[1] == "xmlns":
			f.spaces[""] = value
		default:
			continue
		}
		declared = append(declared, m[1])
	}
	for _, m := range all {
		if slices.Contains(declared, m[1]) {
			continue
		}
		space, name, ok := spaceOracle(m[1], f.spaces)
		if !strings.Contains(m[1], ":") {
			space = ""
		}
		if !ok {
			return nil, false
		}
		value, _ := saidOracle(m[2][1 : len(m[2])-1])
		f.node.Attrs = append(f.node.Attrs, api.Attr{Space: space, Name: name, Value: value})
		named = append(named, space+"\x00"+name)
	}
	var ok bool
	f.node.Space, f.node.Name, ok = spaceOracle(written, f.spaces)
	return f, ok && !hasTwice(declared) && !hasTwice(named)
}

// spaceOracle answers what a qualified name's prefix stands for, and the rest.
func spaceOracle(written string, spaces map[string]string) (space, name string, ok bool) {
	prefix, name, has := strings.Cut(written, ":")
	if !has {
		prefix, name = "", written
	}
	space, ok = spaces[prefix]
	return space, name, ok
}

func hasTwice(l []string) bool {
	l = slices.Sorted(slices.Values(l))
	return len(slices.Compact(slices.Clone(l))) < len(l)
}

func feedsOracle(s string) string {
	return strings.Join(returnPattern.Split(s, -1), "\n")
}

// saidOracle is what a text or a value stands for; false, if it has a reference
// to what XML has not.
func saidOracle(s string) (string, bool) {
	right := true
	said := referencePattern.ReplaceAllStringFunc(feedsOracle(s), func(m string) string {
		m = m[1 : len(m)-1]
		if text := map[string]string{"amp": "&", "lt": "<", "gt": ">", "quot": `"`, "apos": "'"}[m]; text != "" {
			return text
		}
		n, _ := strconv.ParseInt(strings.Replace(strings.ToLower(m[1:]), "x", "0x", 1), 0, 64)
		if m[1] != 'x' && m[1] != 'X' {
			n, _ = strconv.ParseInt(m[1:], 10, 64)
		}
		right = right && n > 0 && n <= 0x10ffff && (n < 0xd800 || n > 0xdfff) && !missingPattern.MatchString(string(rune(n)))
		return string(rune(n))
	})
	return said, right
}

// libraryNode is what the library reads, token by token, of what is a document.
func libraryNode(t *testing.T, s string) api.Node {
	t.Helper()
	open := []*frame{{}}
	for d := library.NewDecoder(strings.NewReader(s)); ; {
		token, err := d.Token()
		if err == io.EOF {
			return open[0].node.Kids[len(open[0].node.Kids)-1]
		}
		if err != nil {
			t.Fatalf("%v: %.300q", err, s)
		}
		inner := open[len(open)-1]
		switch x := token.(type) {
		case library.CharData:
			if len(open) > 1 {
				inner.say(string(x))
			}
		case library.StartElement:
			f := &frame{node: api.Node{Space: x.Name.Space, Name: x.Name.Local}}
			for _, a := range x.Attr {
				if a.Name.Space != "xmlns" && (a.Name.Space != "" || a.Name.Local != "xmlns") {
					f.node.Attrs = append(f.node.Attrs, api.Attr{Space: a.Name.Space, Name: a.Name.Local, Value: a.Value})
				}
			}
			open = append(open, f)
		case library.EndElement:
			open = open[:len(open)-1]
			open[len(open)-1].node.Kids = append(open[len(open)-1].node.Kids, inner.node)
		}
	}
}

// same node: no list and an empty one are one.
func same(a, b api.Node) bool {
	return a.Space == b.Space && a.Name == b.Name && a.Text == b.Text && slices.Equal(a.Attrs, b.Attrs) && slices.EqualFunc(a.Kids, b.Kids, same)
}

// show a node, cut where it is long.
func show(n api.Node) string {
	return fmt.Sprintf("%.600s", fmt.Sprintf("%+q", n))
}

// sameParse holds Parse against the oracle.
func sameParse(t *testing.T, s string) (api.Node, bool) {
	t.Helper()
	want, wrong := parseOracle([]byte(s))
	n, e := xml.Parse([]byte(s))
	if e != wrong || !same(n, want) {
		t.Fatalf("Parse(%.600q): %s %v, not %s %v", s, show(n), e, show(want), wrong)
	}
	return n, e == api.OK
}

// nodes tells n and each node in it, with how many others it is within.
func nodes(n api.Node, within int, tell func(n api.Node, within int)) {
	tell(n, within)
	for _, kid := range n.Kids {
		nodes(kid, within+1, tell)
	}
}

// rightOracle asks each rule of each node.
func rightOracle(n api.Node) bool {
	right := n.Name != ""
	nodes(n, 0, func(n api.Node, within int) {
		text := n.Name == ""
		var names []string
		words := []string{n.Space, n.Name, n.Text}
		wrongAttr := false
		for _, a := range n.Attrs {
			names = append(names, a.Name)
			words = append(words, a.Name, a.Value)
			wrongAttr = wrongAttr || a.Space != "" || a.Name == "xmlns" || !namePattern.MatchString(a.Name)
		}
		beside := false
		for i := 1; i < len(n.Kids); i++ {
			beside = beside || n.Kids[i].Name == "" && n.Kids[i-1].Name == ""
		}
		for _, broken := range []bool{
			slices.ContainsFunc(words, func(s string) bool { return !utf8.ValidString(s) }),
			missingPattern.MatchString(strings.Join(words, "")),
			strings.Contains(strings.Join(words, ""), "\r"),
			text && n.Text == "",
			text && (len(n.Attrs) > 0 || len(n.Kids) > 0 || n.Space != ""),
			!text && n.Text != "",
			!text && !namePattern.MatchString(n.Name),
			!text && (wrongAttr || hasTwice(names)),
			!text && within >= 24,
			beside,
		} {
			right = right && !broken
		}
	})
	return right
}

// printOracle puts texts together from within to without.
func printOracle(n api.Node, around string) string {
	if n.Name == "" {
		return esc.Html(n.Text)
	}
	tag := n.Name
	all := n.Attrs
	if n.Space != around {
		all = append([]api.Attr{{Name: "xmlns", Value: n.Space}}, all...)
	}
	for _, a := range all {
		tag += " " + a.Name + `="` + strings.NewReplacer("\n", "&#10;", "\t", "&#9;").Replace(esc.Html(a.Value)) + `"`
	}
	var kids []string
	for _, kid := range n.Kids {
		kids = append(kids, printOracle(kid, n.Space))
	}
	if len(kids) == 0 {
		return "<" + tag + "/>"
	}
	return "<" + tag + ">" + strings.Join(kids, "") + "</" + n.Name + ">"
}

// samePrint holds Print against the oracles, and what it prints against Parse.
func samePrint(t *testing.T, n api.Node) {
	t.Helper()
	want, wrong := "", api.ErrArg
	if rightOracle(n) {
		want, wrong = printOracle(n, ""), api.OK
	}
	s, e := xml.Print(n)
	if s != want || e != wrong {
		t.Fatalf("Print(%s): %.600q %v, not %.600q %v", show(n), s, e, want, wrong)
	}
	if e == api.OK {
		readAgain(t, n, s)
	}
}

// readAgain what was printed of n.
func readAgain(t *testing.T, n api.Node, s string) {
	t.Helper()
	again, e := xml.Parse([]byte(s))
	if len(s) > 65536 {
		if e != api.ErrLong || !isZero(again) {
			t.Fatalf("Parse of %d bytes: %v", len(s), e)
		}
		return
	}
	if e != api.OK || !same(again, n) {
		t.Fatalf("Parse(Print(%s)): %s %v", show(n), show(again), e)
	}
}

// allOracle are the elements among Kids that have those names.
func allOracle(n api.Node, space, name string) []api.Node {
	return slices.DeleteFunc(slices.Clone(n.Kids), func(kid api.Node) bool {
		return kid.Name == "" || kid.Name != name || kid.Space != space
	})
}

func valueOracle(n api.Node, name string) string {
	at := slices.IndexFunc(n.Attrs, func(a api.Attr) bool { return a == api.Attr{Name: name, Value: a.Value} })
	if at < 0 {
		return ""
	}
	return n.Attrs[at].Value
}

// innerOracle puts texts behind one another, where texts have no Kids.
func innerOracle(n api.Node) string {
	all := ""
	nodes(n, 0, func(n api.Node, _ int) {
		if n.Name == "" {
			all += n.Text
		}
	})
	return all
}

// sameAsked holds Find, All, Value and Inner against the oracles, of n and what
// is in it, at all names that are there.
func sameAsked(t *testing.T, n api.Node) {
	t.Helper()
	if got, want := xml.Inner(n), innerOracle(n); got != want {
		t.Fatalf("Inner(%s): %q, not %q", show(n), got, want)
	}
	spaces, names := []string{"", "u"}, []string{"", "a", "xmlns"}
	for _, kid := range n.Kids {
		spaces, names = append(spaces, kid.Space), append(names, kid.Name)
	}
	for _, space := range spaces {
		for _, name := range names {
			want := allOracle(n, space, name)
			if got := xml.All(n, space, name); !slices.EqualFunc(got, want, same) {
				t.Fatalf("All(%s, %q, %q): %d, not %d", show(n), space, name, len(got), len(want))
			}
			first, ok := xml.Find(n, space, name)
			if ok != (len(want) > 0) || ok && !same(first, want[0]) || !ok && !isZero(first) {
				t.Fatalf("Find(%s, %q, %q): %s %v", show(n), space, name, show(first), ok)
			}
		}
	}
	for _, a := range append([]api.Attr{{}, {Name: "a"}, {Name: "xmlns"}}, n.Attrs...) {
		if got, want := xml.Value(n, a.Name), valueOracle(n, a.Name); got != want {
			t.Fatalf("Value(%s, %q): %q, not %q", show(n), a.Name, got, want)
		}
	}
	for _, kid := range n.Kids {
		sameAsked(t, kid)
	}
}

// rows tells every row of up to most of the pieces.
func rows(pieces []string, most int, tell func(string)) {
	tell("")
	if most == 0 {
		return
	}
	for _, p := range pieces {
		rows(pieces, most-1, func(row string) { tell(p + row) })
	}
}

// long is how many pieces a row has, one fewer in short runs.
func long(most int) int {
	if testing.Short() {
		return most - 1
	}
	return most
}

// often is how many times something is made up, fewer in short runs.
func often(times int) int {
	if testing.Short() {
		return times / 5
	}
	return times
}

// around puts each row between two texts and holds Parse of it against the
// oracle.
func around(t *testing.T, ahead, behind string, most int, pieces ...string) {
	t.Helper()
	rows(pieces, long(most), func(row string) {
		sameParse(t, ahead+row+behind)
	})
}

func TestRowsOfDocuments(t *testing.T) { // P8.1
	around(t, "", "", 5, "<a>", "</a>", "<b/>", "t", "<!---->", "<?i?>", "<![CDATA[c]]>", " ", "\ufeff")
	around(t, "<a>", "</a>", 4, "<a>", "</a>", "<b/>", "</b>", "t", "]]>", "<!---->", "<?i?>", "<![CDATA[c]]>", "<![CDATA[]]>", "&lt;", "\n")
	around(t, "", "", 6, "<", ">", "/", "a", "?", "!", " ", "--")
}

func TestRowsOfTags(t *testing.T) { // P8.1
	around(t, "<a", "", 5, "/", ">", " ", "b", ":", "=", "''", `"`, "xmlns", "</a>")
	around(t, "<a ", "/>", 5, "b", ":", "=", "'", `"`, " ", "1", "<", "&lt;", "&")
	around(t, "<a></a", "", 5, "/", ">", " ", "\n", "a", ":", "<", "<b/>")
	around(t, "<", "/>", 4, "a", "1", ".", "-", "_", ":", " ", "é", "Z", "xml", "\u00b7")
}

func TestRowsOfRemarks(t *testing.T) { // P8.1
	around(t, "<!--", "<a/>", 6, "-", ">", "!", "a", "<", "&", "\n")
	around(t, "<a><!-", "</a>", 6, "-", ">", "<!--", "-->", "]]>")
	around(t, "<a><?", "</a>", 5, "?", ">", "a", " ", "1", ":", "?>", "<")
	around(t, "<?", "<a/>", 5, "?", ">", "_", "\n", "-", "?>", "xml")
	around(t, "<a><![", "</a>", 6, "CDATA", "[", "]", ">", "]]>", "cdata")
	around(t, "<a><![CDATA[", "]]></a>", 6, "]", ">", "&", "<", "\r", "\n")
}

func TestRowsOfReferences(t *testing.T) { // P8.1
	pieces := []string{"#", "x", "X", "0", "1", "9", "f", "D", ";", "amp", "&", "lt", " "}
	around(t, "<a>&", "</a>", 4, pieces...)
	around(t, "<a b='&", "'/>", 4, pieces...)
	around(t, "<a>&", ";</a>", 4, pieces...)
	around(t, "<a><![CDATA[&", "]]></a>", 3, pieces...)
	around(t, "<a>", "</a>", 5, "&#", "&#x", "0", "D800", "10FFFF", "FFFE", "65535", "9", ";")
}

func TestRowsOfLineFeeds(t *testing.T) { // P8.1
	pieces := []string{"\r", "\n", "&#13;", "&#xA;", "a", "\t", " "}
	around(t, "<a>", "</a>", 5, pieces...)
	around(t, "<a b=\"", "\"/>", 5, pieces...)
	around(t, "<a><![CDATA[", "]]></a>", 4, pieces...)
	around(t, "<a>", "</a>", 4, append(pieces, "<!---->", "<?i?>", "<![CDATA[\n]]>", "<![CDATA[\r]]>", "<b/>")...)
	around(t, "<a xmlns=\"", "\"/>", 4, pieces...)
}

func TestRowsOfSpaces(t *testing.T) { // P8.1
	around(t, "", "", 5, "<a xmlns:p='u'>", "<p:a>", "<a xmlns='v'>", "<a xmlns=''>", "<a p:b='' b=''>", "</a>", "</p:a>", "<p:b/>", "<b/>")
	around(t, "<a xmlns:p='u' xmlns:q='v'>", "</a>", 3, "<p:b xmlns:p='v'>", "</p:b>", "<q:b xmlns:q='u'>", "</q:b>", "<p:c q:d=''/>", "<c p:d='' q:d=''/>", "<c xmlns:q='u' p:d='' q:d=''/>", "<xml:c xml:d=''/>", "<r:c xmlns:r='r'/>", "<r:c/>", "<c xmlns='u' p:d='' d=''/>")
	around(t, "<a", "/>", 4, " xmlns='u'", " xmlns:p='u'", " xmlns:q='u'", " p:b=''", " q:b=''", " b='v'", " xmlns=''", " xmlns:p=''", " xmlns:=''", " xml:b=''", " xmlns:p='&#117;'", " p:xmlns='w'")
	around(t, "<p:a", "/>", 3, " xmlns='u'", " xmlns:p='v'", " xmlns:q='v'", " p:b=''", " q:b=''", " xmlns:p='xmlns'", " p:q=''", " p:p=''")
}

func TestRowsOfDeep(t *testing.T) { // P8.1
	for _, ahead := range []string{strings.Repeat("<a>", 22), strings.Repeat("<a>", 23), strings.Repeat("<a>", 24), strings.Repeat("<a><b c=''>", 12)} {
		around(t, ahead, "", 3, "<a>", "</a>", "<b/>", "<b c='' c=''>", "<p:b>", "<b xmlns:p=''/>", "<b", "t", "&", "]]>", "</b>", "<!---->", "<!-- -- -->", "<![CDATA[<a>]]>", "<?i?>", "<? ?>")
	}
}

// TestNeighbours puts each byte into and in the place of each byte of some
// documents, leaves each one out, and ends behind it.
func TestNeighbours(t *testing.T) { // P8.1
	for _, s := range []string{
		"\ufeff<?x y?> <a xmlns='u' b = \"&lt;\"><x:c xmlns:x='v'>t<!--r-->&amp;</x:c ></a>\n<!-- - -->",
		"<p:a xmlns:p='u' p:b=\"'\"\tb='\"' xml:c=''><![CDATA[]]]]>&#x41;&#66;é<p:b/><p:b></p:b>\r\n</p:a>",
		strings.Repeat("<a>", 23) + "<b c='d'><c/></b>",
	} {
		for at := range len(s) {
			sameParse(t, s[:at])
			sameParse(t, s[:at]+s[at+1:])
			for c := range 0x100 {
				one := string([]byte{byte(c)})
				sameParse(t, s[:at]+one+s[at+1:])
				sameParse(t, s[:at]+one+s[at:])
			}
		}
	}
}

// maker makes documents and nodes, and what is nearly some, from numbers.
type maker struct{ random *rand.Rand }

func (m maker) one(of ...string) string { return of[m.random.Intn(len(of))] }

func (m maker) blanks(least int) string {
	s := ""
	for len(s) < least || m.random.Intn(4) == 0 {
		s += m.one(" ", "\t", "\n", "\r")
	}
	return s
}

func (m maker) name() string { return m.one("a", "b", "c", "é", "_", "a-b.1", "xmlns2", "X") }

// said is a row of what a text or a value may have.
func (m maker) said(others ...string) string {
	s := ""
	for range m.random.Intn(4) {
		s += m.one(append(others, "a", " ", "\n", "\r", "\r\n", "\t", "é", "😀", "&amp;", "&lt;", "&gt;", "&quot;", "&apos;", "&#13;", "&#xD7FF;", "&#10;", "]", "-", "=", "/")...)
	}
	return s
}

func (m maker) quoted(said string) string {
	if m.random.Intn(2) == 0 && !strings.Contains(said, "'") {
		return "'" + said + "'"
	}
	return `"` + strings.ReplaceAll(said, `"`, "") + `"`
}

// aside is what may stand around an element.
func (m maker) aside() string {
	return m.one("", "", m.blanks(1), "<!---->", "<!-- - > ->-->", "<?a?>", "<?b-c <&>??>", "<!--<a>&]]>-->")
}

// document of at most so many elements within one another.
func (m maker) document(depth int) string {
	mark := m.one("", "", "\ufeff")
	return mark + m.aside() + m.aside() + m.element(depth, nil) + m.aside() + m.aside()
}

// element where these prefixes stand for something.
func (m maker) element(depth int, known []string) string {
	var attrs []string
	var given []string // not twice
	known = slices.Clone(known)
	for _, prefix := range []string{"p", "q"} {
		if m.random.Intn(3) == 0 {
			attrs = append(attrs, "xmlns:"+prefix+m.blanks(0)+"="+m.blanks(0)+m.quoted("u"+m.said()))
			known = append(known, prefix)
		}
	}
	if m.random.Intn(4) == 0 {
		attrs = append(attrs, "xmlns="+m.quoted(m.one("", "u", "v", m.said())))
	}
	for range m.random.Intn(3) {
		name := m.name()
		if prefix := m.one(append(known, "", "xml")...); prefix != "" {
			name = prefix + ":" + name
		}
		if local := name[strings.Index(name, ":")+1:]; !slices.Contains(given, local) {
			given = append(given, local)
			attrs = append(attrs, name+m.blanks(0)+"="+m.blanks(0)+m.quoted(m.said(">", `"`, "'")))
		}
	}
	m.random.Shuffle(len(attrs), func(i, j int) { attrs[i], attrs[j] = attrs[j], attrs[i] })
	name := m.name()
	if prefix := m.one(append(known, "", "", "xml")...); prefix != "" {
		name = prefix + ":" + name
	}
	tag := "<" + name
	for _, a := range attrs {
		tag += m.blanks(1) + a
	}
	tag += m.blanks(0)
	if m.random.Intn(3) == 0 {
		return tag + "/>"
	}
	tag += ">"
	for range m.random.Intn(5) {
		switch what := m.random.Intn(6); {
		case what < 2 && depth > 1:
			tag += m.element(depth-1, known)
		case what == 2:
			tag += "<![CDATA[" + m.said("<", "&", "]]", "&nope;") + "]]>"
		case what == 3:
			tag += m.aside()
		default:
			tag += m.said(`"`, "'")
		}
	}
	return tag + "</" + name + m.blanks(0) + ">"
}

// pieces of documents, one behind the other, with and without order.
func (m maker) pieces() string {
	s := ""
	for range m.random.Intn(6) {
		s += m.one("<", ">", "/", "</", "/>", "=", "'", `"`, "&", "&;", "&#1;", "&#0;", "&nope;", "]]>", "<![CDATA[", "<!--", "--", "-->", "<?", "?>", "<!DOCTYPE a>", " ", "\r", "\x00", "\xff", "\ufffe", "\ufeff", "a", "1", ":", "p:", "<a>", "</a>", "<b/>", "<r:b/>", " b=''", " xmlns:p=''", " p:b=''", " xmlns='v'", strings.Repeat("<a>", 20))
	}
	return s
}

// words of a text, a value or a Space that may be printed.
func (m maker) words() string {
	s := ""
	for range m.random.Intn(4) {
		s += m.one("a", "b", "é", "😀", "\"", "'", "&", "<", ">", "\n", "\t", " ", "]]>", "&amp;", "\u2028", "\x7f", "\ufffd", "\ufeff")
	}
	return s
}

// right element of at most so many elements within one another.
func (m maker) right(depth int) api.Node {
	n := api.Node{Name: m.name(), Space: m.one("", "", "u", "v", m.words())}
	for range m.random.Intn(3) {
		name := m.name()
		if !slices.ContainsFunc(n.Attrs, func(a api.Attr) bool { return a.Name == name }) {
			n.Attrs = append(n.Attrs, api.Attr{Name: name, Value: m.words()})
		}
	}
	for range m.random.Intn(4) {
		last := len(n.Kids) - 1
		if m.random.Intn(2) == 0 && (last < 0 || n.Kids[last].Name != "") {
			n.Kids = append(n.Kids, api.Node{Text: "t" + m.words()})
		} else if depth > 1 {
			n.Kids = append(n.Kids, m.right(depth-1))
		}
	}
	return n
}

// spoil one thing somewhere in a node, most often. A text gets no Kids.
func (m maker) spoil(n *api.Node) {
	if len(n.Kids) > 0 && m.random.Intn(3) > 0 {
		m.spoil(&n.Kids[m.random.Intn(len(n.Kids))])
		return
	}
	words := m.one("", "\xff", "a\r", "\x01", "\ufffe", m.words())
	switch m.random.Intn(7) {
	case 0:
		n.Name = m.one("a:b", ":", "1", "-a", ".", "a ", "a>", "é\xff", "\ufffea", "xmlns", m.name())
	case 1:
		n.Text = words
	case 2:
		n.Space = words
	case 3:
		n.Attrs = append(n.Attrs, api.Attr{Space: m.one("", "", "u"), Name: m.one("", "xmlns", "a:b", "1", "a\xff", "a", "b"), Value: words})
	case 4:
		if n.Name != "" {
			n.Kids = append(n.Kids, m.right(1), api.Node{Text: words})
		}
	case 5:
		if n.Name != "" {
			n.Kids = append([]api.Node{{Text: words}}, n.Kids...)
		}
	case 6:
		for range m.random.Intn(25) {
			*n = api.Node{Name: "a", Kids: []api.Node{*n}}
		}
	}
}

func TestMadeUpDocuments(t *testing.T) { // P8.1, P8.3
	m := maker{rand.New(rand.NewSource(8))}
	for range often(30000) {
		s := m.document(m.random.Intn(6))
		n, ok := sameParse(t, s)
		if !ok {
			t.Fatalf("Parse(%q): no document", s)
		}
		if want := libraryNode(t, s); !same(n, want) {
			t.Fatalf("Parse(%q): %s, not %s", s, show(n), show(want))
		}
		sameAsked(t, n)
		at := m.random.Intn(len(s) + 1)
		sameParse(t, s[:at]+m.pieces()+s[at:])
		sameParse(t, m.pieces())
		other := m.random.Intn(len(s) + 1)
		sameParse(t, s[:min(at, other)]+s[max(at, other):])
	}
}

func TestMadeUpNodes(t *testing.T) { // P8.2, P8.3
	m := maker{rand.New(rand.NewSource(80))}
	for range often(20000) {
		n := m.right(m.random.Intn(6))
		if _, e := xml.Print(n); e != api.OK {
			t.Fatalf("Print(%s): %v", show(n), e)
		}
		samePrint(t, n)
		sameAsked(t, n)
		m.spoil(&n)
		samePrint(t, n)
		sameAsked(t, n)
	}
}

func FuzzCalls(f *testing.F) { // P8.1 to P8.3
	f.Add(`<a xmlns="u" b="&lt;"><x:c xmlns:x="v">t<!--r-->&amp;</x:c></a>`, int64(1))
	f.Add(strings.Repeat("<a>", 25), int64(2))
	f.Add("\ufeff<?xml v?><a><![CDATA[]]]]>\r\n</a>", int64(3))
	f.Fuzz(func(t *testing.T, s string, seed int64) {
		n, ok := sameParse(t, s)
		if ok {
			samePrint(t, n)
			sameAsked(t, n)
		}
		m := maker{rand.New(rand.NewSource(seed))}
		m.spoil(&n)
		samePrint(t, n)
		sameAsked(t, n)
	})
}
