package xml_test

import (
	"fmt"
	"slices"
	"strings"
	"testing"

	"broadsheet/api"
	"broadsheet/xml"
)

func text(s string) api.Node { return api.Node{Text: s} }

func attr(name, value string) api.Attr { return api.Attr{Name: name, Value: value} }

// element without a Space.
func element(name string, kids ...api.Node) api.Node { return api.Node{Name: name, Kids: kids} }

func in(space string, n api.Node) api.Node {
	n.Space = space
	return n
}

func with(n api.Node, attrs ...api.Attr) api.Node {
	n.Attrs = attrs
	return n
}

// isZero says whether a node is what stands beside an error or a false.
func isZero(n api.Node) bool {
	return n.Space == "" && n.Name == "" && n.Text == "" && len(n.Attrs) == 0 && len(n.Kids) == 0
}

func parsed(t *testing.T, s string, want api.Node) {
	t.Helper()
	if n, e := xml.Parse([]byte(s)); e != api.OK || !same(n, want) {
		t.Errorf("Parse(%.200q): %s %v, not %s", s, show(n), e, show(want))
	}
}

func refused(t *testing.T, s string, want api.Errno) {
	t.Helper()
	if n, e := xml.Parse([]byte(s)); e != want || !isZero(n) {
		t.Errorf("Parse(%.200q) of %d bytes: %s %v, not %v", s, len(s), show(n), e, want)
	}
}

// wrong documents, all of them ErrForm.
func wrong(t *testing.T, all ...string) {
	t.Helper()
	for _, s := range all {
		refused(t, s, api.ErrForm)
	}
}

func TestExample(t *testing.T) { // P8.1
	parsed(t, `<a xmlns="u" b="&lt;"><x:c xmlns:x="v">t<!--r-->&amp;</x:c></a>`, in("u", with(element("a", in("v", element("c", text("t&")))), attr("b", "<"))))
}

func TestParseElements(t *testing.T) { // P8.1
	for s, want := range map[string]api.Node{
		"<a/>": element("a"), "<a />": element("a"), "<a \t\r\n/>": element("a"), "<a></a>": element("a"), "<a ></a\t\n\r >": element("a"),
		"<a>t</a>": element("a", text("t")), "<a> </a>": element("a", text(" ")), "<a>\n<b/>\t</a>": element("a", text("\n"), element("b"), text("\t")),
		"<a><b/><c/>t<b></b></a>":    element("a", element("b"), element("c"), text("t"), element("b")),
		"<a><a><a/></a><a/></a>":     element("a", element("a", element("a")), element("a")),
		"<a>></a>":                   element("a", text(">")),
		"<a>]] ></a>":                element("a", text("]] >")),
		"<a>/>\"'=-->?></a>":         element("a", text("/>\"'=-->?>")),
		"<a b='/>'>t</a>":            with(element("a", text("t")), attr("b", "/>")),
		"<xmlns/>":                   element("xmlns"),
		"<xml/>":                     element("xml"),
		"<a xml='1'/>":               with(element("a"), attr("xml", "1")),
		"<a><a b=''/><a b=''/></a>":  element("a", with(element("a"), attr("b", "")), with(element("a"), attr("b", ""))),
		"<A.-_9é b='1'/>":            with(element("A.-_9é"), attr("b", "1")),
		"<a b='2' a='1' B='3'/>":     with(element("a"), attr("b", "2"), attr("a", "1"), attr("B", "3")),
		"<Feed><feed></feed></Feed>": element("Feed", element("feed")),
		"<a>\u0085\u00a0\u2028\ufffd\U0010ffff</a>": element("a", text("\u0085\u00a0\u2028\ufffd\U0010ffff")),
	} {
		parsed(t, s, want)
	}
	wrong(t,
		"", " ", "t", "<", ">", "<>", "</>", "< a/>", "<a", "<a ", "<a/", "<a/ >", "<a / >", "<a//>", "<a/>/", "<a>>", "<a/>>", "<<a/>", "<a></a", "<a></a>>", "<a><", "<a></", "<a></>", "<a></ a>", "<a></a/>", "<a></a b=''>", "<a></a\x0c>",
		"<a>", "</a>", "<a></a></a>", "<a><a></a>", "<a><b></a></b>", "<a><b></a>", "<a></b></a>", "<a/></a>", "<a/t>", "<a\f/>", "<a\vb=''/>", "<a\u2003b=''/>", "<a\u0085></a>",
		"<a></b>", "<a></A>", "<a></ab>", "<ab></a>", "<a></a-b>", "<a></a:a>", "<é></e>", "<é></\u0065\u0301>", "<a></&#97;>", "<&#97;/>",
		"<!DOCTYPE a><a/>", "<a><!DOCTYPE a></a>", "<!ELEMENT a><a/>", "<a><!b></a>", "<a><!></a>", "<!/><a/>",
	)
}

func TestParseEndTags(t *testing.T) { // P8.1
	const spaces = " xmlns='u' xmlns:p='u' xmlns:q='u'"
	parsed(t, "<p:a"+spaces+"></p:a>", in("u", element("a")))
	parsed(t, "<p:a"+spaces+"></p:a\n>", in("u", element("a")))
	// Of one Space and Name, but not the same qualified name.
	wrong(t, "<p:a"+spaces+"></q:a>", "<p:a"+spaces+"></a>", "<a"+spaces+"></p:a>", "<p:a"+spaces+"></p:b>", "<p:a"+spaces+"></P:a>", "<p:a"+spaces+"></p:>", "<p:a"+spaces+"></p>", "<p:a"+spaces+"></:a>", "<p:a"+spaces+"></p :a>", "<p:a"+spaces+"></p: a>", "<p:a"+spaces+"></p:a:a>", "<a"+spaces+"><p:b></q:b></a>")
}

// placed are places of a name, and of a prefix where one stands, from the front on.
func placed() []string {
	return []string{"<%s/>", "<%s></%[1]s>", "<a %s=''/>", "<a><?%s?></a>", "<?%s ?><a/>", "<p:%s xmlns:p='u'/>", "<%s:a xmlns:%[1]s='u'/>", "<a xmlns:p='u' p:%s=''/>", "<a xmlns:%s='u'/>", "<a xmlns:%s='u' %[1]s:b=''/>"}
}

func isLetter(c rune) bool { return c >= 'a' && c <= 'z' || c >= 'A' && c <= 'Z' }

func TestParseNames(t *testing.T) { // P8.1
	points := []rune{0x80, 0x85, 0xa0, 0xb7, 0xd7, 0xe9, 0xff, 0x100, 0x37e, 0x7ff, 0x800, 0x2028, 0x3000, 0xd7ff, 0xe000, 0xfeff, 0xfffd, 0x10000, 0x1fffe, 0x10ffff}
	for c := range rune(0x80) {
		points = append(points, c)
	}
	for _, form := range placed() {
		instruction := strings.Contains(form, "?%s")
		for _, c := range points {
			front := isLetter(c) || c == '_' || c >= 0x80
			behind := front || c >= '0' && c <= '9' || c == '-' || c == '.'
			sameForm(t, form, string(c), front)
			sameForm(t, form, string(c)+string(c), front)
			if instruction || strings.ContainsRune(" \t\n\r:/=>", c) {
				continue // what may stand ahead of a name there, or behind it
			}
			sameForm(t, form, string(c)+"a", front)
			sameForm(t, form, "a"+string(c), behind)
			sameForm(t, form, "a"+string(c)+"b", behind)
			sameForm(t, form, "_"+strings.Repeat("é", 30)+string(c)+"9", behind)
		}
		for _, bad := range []string{"\x80", "\xff", "\xc3", "\xe2\x82", "\xed\xa0\x80", "\xef\xbf\xbe", "\xef\xbf\xbf"} {
			sameForm(t, form, bad, false)
			sameForm(t, form, "a"+bad, false)
			sameForm(t, form, bad+"a", false)
		}
		sameForm(t, form, "", false)
	}
}

// sameForm says whether a name is one where form has it.
func sameForm(t *testing.T, form, name string, want bool) {
	t.Helper()
	if name == "xmlns" {
		return
	}
	s := fmt.Sprintf(form, name)
	if _, e := xml.Parse([]byte(s)); e != map[bool]api.Errno{true: api.OK, false: api.ErrForm}[want] {
		t.Errorf("Parse(%q): %v", s, e)
	}
}

func TestParseNamesAreKept(t *testing.T) { // P8.1
	for _, name := range []string{"a", "Z", "_", "é", "\u00b7", "a1", "a-", "a.", "a_", "_-.0", "aé", "\ufeffa", "日本", "😀", strings.Repeat("aB9", 1000)} {
		parsed(t, "<"+name+"/>", element(name))
		parsed(t, "<"+name+" "+name+"='1'>t</"+name+">", with(element(name, text("t")), attr(name, "1")))
		parsed(t, "<p:"+name+" xmlns:p='u' p:"+name+"='1'/>", in("u", with(element(name), api.Attr{Space: "u", Name: name, Value: "1"})))
		parsed(t, "<"+name+":a xmlns:"+name+"='u'></"+name+":a>", in("u", element("a")))
	}
}

func TestParseColons(t *testing.T) { // P8.1
	const spaces = " xmlns:a='u' xmlns:b='v'"
	parsed(t, "<a:b"+spaces+" a:b='1'/>", in("u", with(element("b"), api.Attr{Space: "u", Name: "b", Value: "1"})))
	parsed(t, "<a:a"+spaces+" a:a='1' a='2' b:a='3'/>", in("u", with(element("a"), api.Attr{Space: "u", Name: "a", Value: "1"}, attr("a", "2"), api.Attr{Space: "v", Name: "a", Value: "3"})))
	for _, name := range []string{":", ":a", "a:", "::", "a::b", ":a:b", "a:b:", "a:b:b", "a:b:c", "a :b", "a: b", "a:1", "1:a", "a:-", "a:.b", "-:a", "a:<", "a;b"} {
		wrong(t, "<"+name+spaces+"/>", "<"+name+spaces+"></"+name+">", "<a"+spaces+" "+name+"='1'/>", "<a"+spaces+"><"+name+"/></a>")
	}
	for _, name := range []string{":", "xmlns:", "xmlns::", "xmlns::a", "xmlns:a:b", "xmlns:1", "xmlns :a", "xmlns: a", ":xmlns"} {
		wrong(t, "<a "+name+"='u'/>", "<a b='1' "+name+"='u' c='2'></a>")
	}
}

func TestParseMark(t *testing.T) { // P8.1
	const mark = "\xef\xbb\xbf"
	parsed(t, mark+"<a/>", element("a"))
	parsed(t, mark+" \n<?xml version='1.0'?><!----><a/>", element("a"))
	parsed(t, mark+"<a>"+mark+"</a>", element("a", text(mark)))
	parsed(t, mark+"<"+mark+"/>", element(mark))
	parsed(t, "<!--"+mark+"--><a/>", element("a"))
	wrong(t, mark, mark+mark, mark+mark+"<a/>", " "+mark+"<a/>", "<!---->"+mark+"<a/>", "<?x?>"+mark+"<a/>", mark+" "+mark+"<a/>", "<a/>"+mark, mark+"<a/>"+mark, mark+"t", mark+" ", "\xef\xbb<a/>", "\xef<a/>", "\xbb\xbf<a/>", "\xbf<a/>", "\xef\xbb", "\xfe\xff<a/>", "\xff\xfe<a/>", "\xff\xfe<\x00a\x00/\x00>\x00", mark+"\xef\xbb<a/>", mark+"\xff<a/>")
	refused(t, mark+strings.Repeat("<a>", 25), api.ErrDeep)
}

// asides may stand around an element and in it.
func asides() []string {
	return []string{"<!---->", "<!-- -->", "<!--a-->", "<!-- - -->", "<!--->-->", "<!---a-->", "<!--<a>-->", "<!--]]>-->", "<!--&-->", "<!--&nope;-->", "<!--<?-->", "<!--?>-->", "<!--\r\n\t\"'-->", "<!--é😀-->", "<!--!-->", "<!--<!-->", "<!--<!- -->", "<?a?>", "<?a ?>", "<?a??>", "<?a>?>", "<?a <b>&]]>?>", "<?a--?>", "<?xml version=\"1.0\" encoding=\"x\"?>", "<?XML?>", "<?xml?>", "<?xml-a b?>", "<?_?>", "<?é!?>", "<?a:b?>", "<?a\n\r\t?>", "<?a<?b?>", "<?a'\"?>"}
}

func notAsides() []string {
	return []string{
		"<!-- -- -->", "<!------>", "<!----->", "<!--a--->", "<!--->", "<!-->", "<!-- --- -->", "<!--a--b-->", "<!--a-- >", "<!--a->", "<!--a", "<!--", "<!--a-", "<!--a--", "<!-", "<!", "<!- -->", "<! ---->", "< !---->", "<!--->a", "<!--a--\n>", "<!---->-->", "<!---- >", "<!----!>", "-->",
		"<?", "<??>", "<? ?>", "<? a?>", "<?1?>", "<?-a?>", "<?.?>", "<?:a?>", "<?a", "<?a?", "<?a>", "<?a/>", "<?a? >", "<?>", "<?a?>?>", "< ?a?>", "<?a!", "<?\n?>", "<?<a?>", "<?&a?>", "?>", "<a?>",
	}
}

func TestParseAround(t *testing.T) { // P8.1
	for _, s := range append(asides(), "", " ", "\t", "\n", "\r", " \t\r\n ", strings.Repeat(" \n", 500)) {
		for _, other := range []string{"", " ", "<!--b-->", "<?b?>", "\n<?b?>\n<!--b--> "} {
			parsed(t, s+other+"<a/>", element("a"))
			parsed(t, other+s+"<a/>"+s+other, element("a"))
			parsed(t, "<a></a>"+other+s, element("a"))
			parsed(t, "<a>t</a>"+s+other+s+s, element("a", text("t")))
			wrong(t, s+other, s+other+"<a/>"+s+"<b/>"+other, s+"t"+other+"<a/>", "<a/>"+s+"t"+other, "<a/>"+other+s+"</a>", "<a/>"+s+"<a", s+other+"<![CDATA[]]><a/>", "<a/>"+other+"<![CDATA[]]>"+s, "<a/>"+s+"&#32;", "&#32;"+s+"<a/>")
		}
	}
	for _, s := range notAsides() {
		if s == "-->" || s == "?>" || s == "<a?>" {
			s += "<b/>"
		}
		wrong(t, s+"<a/>", " "+s+"<a/>", "<a/>"+s, "<a/> "+s, "<!---->"+s+"<a/>", "<a/><?b?>"+s)
	}
	for _, s := range []string{"<b/>", "<b></b>", "<a/>", "<b", "</b>", "<b>", strings.Repeat("<b>", 30)} {
		wrong(t, "<a/>"+s, "<a></a> "+s, "<a/><!---->"+s) // a second one counts where it begins
	}
	for _, s := range []string{"\f", "\v", "\x00", "\x1f", "\x7f", "\u0085", "\u00a0", "\u2003", "\u2028", "a", "-", "&", ";"} {
		wrong(t, s, s+"<a/>", "<a/>"+s, " "+s+" <a/>", "<a/> "+s+"\n", "<!---->"+s+"<a/>", "<a/>"+s+"<!---->")
	}
}

func TestParseWithin(t *testing.T) { // P8.1
	for _, s := range asides() {
		parsed(t, "<a>"+s+"</a>", element("a"))
		parsed(t, "<a>"+s+s+"<b>"+s+"</b>"+s+"</a>", element("a", element("b")))
		parsed(t, "<a>x"+s+"y</a>", element("a", text("xy")))
		parsed(t, "<a>"+s+"x"+s+"y"+s+s+"z"+s+"</a>", element("a", text("xyz")))
		parsed(t, "<a> "+s+" </a>", element("a", text("  ")))
		parsed(t, "<a>x"+s+"<b/>"+s+"y</a>", element("a", text("x"), element("b"), text("y")))
		parsed(t, "<a>x<![CDATA[y]]>"+s+"<![CDATA[z]]></a>", element("a", text("xyz")))
		wrong(t, "<a "+s+"/>", "<a"+s+"/>", "<a b="+s+"''/>", "<a></a"+s+">", "<a></"+s+"a>", "<"+s+"a/>", "<a>"+s, "<a/"+s+">", "<a b='"+s+"'/>")
	}
	for _, s := range notAsides() {
		if said := map[string]string{"-->": "-->", "?>": "?>", "<!---->-->": "-->", "<?a?>?>": "?>"}[s]; said != "" {
			parsed(t, "<a>"+s+"</a>", element("a", text(said))) // a text may be so
			continue
		}
		wrong(t, "<a>"+s+"</a>", "<a>x"+s+"y</a>", "<a><b>"+s+"</b></a>", "<a><b/>"+s+"</a>")
	}
}

func TestParseAttributes(t *testing.T) { // P8.1
	for s, want := range map[string][]api.Attr{
		`b="1"`: {attr("b", "1")}, `b='1'`: {attr("b", "1")}, `b=""`: {attr("b", "")}, `b=''`: {attr("b", "")}, `b='"'`: {attr("b", `"`)}, `b="'"`: {attr("b", "'")}, `b='""' c="''"`: {attr("b", `""`), attr("c", "''")},
		"b = '1'": {attr("b", "1")}, "b='1' ": {attr("b", "1")}, "b\t\r\n=\t\r\n'1'": {attr("b", "1")}, "b ='1'": {attr("b", "1")}, "b= '1'": {attr("b", "1")}, " \n b='1'\t\n": {attr("b", "1")},
		"b='1' c='2'": {attr("b", "1"), attr("c", "2")}, "c='2'\nb='1'": {attr("c", "2"), attr("b", "1")}, "b='1'  \r\t c=\"2\"": {attr("b", "1"), attr("c", "2")},
		"b='>'": {attr("b", ">")}, "b='/>'": {attr("b", "/>")}, "b=']]>'": {attr("b", "]]>")}, "b='-->' c='?>'": {attr("b", "-->"), attr("c", "?>")}, "b=' 1 '": {attr("b", " 1 ")}, "b='c=1'": {attr("b", "c=1")}, "b='\t\n'": {attr("b", "\t\n")},
		"b='1' B='2'": {attr("b", "1"), attr("B", "2")}, "b='1' bb='1' b.='1'": {attr("b", "1"), attr("bb", "1"), attr("b.", "1")}, "é='é' e\u0301='2'": {attr("é", "é"), attr("e\u0301", "2")},
		"b='&lt;&amp;&#39;&quot;'": {attr("b", `<&'"`)}, "a='a'": {attr("a", "a")},
	} {
		for _, form := range []string{"<a %s/>", "<a %s></a>", "<a\n%s ></a>", "<?x?><a %s/>"} {
			parsed(t, fmt.Sprintf(form, s), with(element("a"), want...))
		}
		parsed(t, "<z>t<a "+s+"/>t</z>", element("z", text("t"), with(element("a"), want...), text("t")))
	}
	for _, s := range []string{
		"b", "b=", "b=1", "b=1'", "b='1", "b='", `b='1"`, `b="1'`, "b='1'c='2'", `b="1"c="2"`, "b='1'/c='2'", "b='1',c='2'", "b '1'", "b'1'", "b=='1'", "='1'", "=", "'1'", "b=`1`", "b=“1”", "b='1''", "b='1'\"", "b='1' c", "b c='1'", "b='1'=", "b='1' =", "b=&#39;1&#39;", "&b='1'", "b&='1'", "b='1' '2'", "b='1'\fc='2'", "b:='1'", "1='1'", "-b='1'", "b!='1'", "b='1' <c/>", "<b='1'",
		"b='<'", "b='<b/>'", "b=\"a<\"", "b='1' c='<'", "b='&lt;<'", "b='<!---->'", "b='<![CDATA[]]>'", "b='1' b='2'", "b='1' b='1'", "b='1' c='2' b='3'", `b="1" b='1'`, "b='1'\nb='2'",
	} {
		wrong(t, "<a "+s+"/>", "<a "+s+"></a>", "<a "+s+" ></a>", "<z><a "+s+"/></z>")
	}
	wrong(t, "<ab='1'/>", "<a'b'='1'/>", "<a b='1'/ >", "<a/b='1'>", "<a/ b='1'/>", "<a></a b='1'>", "<a b='1'></a b='1'>")
}

func TestParseAttributesTwice(t *testing.T) { // P8.1
	for _, s := range []string{
		"xmlns:p='u' xmlns:q='u' p:b='' q:b=''", "p:b='' q:b='' xmlns:p='u' xmlns:q='u'", "xmlns:p='u' p:b='1' c='' p:b='2'", "xmlns:p='u' p:b='1' xmlns:q='&#x75;' q:b='2'", "xmlns:p='" + xmlSpace + "' p:b='' xml:b=''", "xml:b='' xml:b=''",
		"xmlns='u' xmlns='u'", "xmlns='u' xmlns='v'", "xmlns='' xmlns=''", "xmlns:p='u' xmlns:p='u'", "xmlns:p='u' b='' xmlns:p='v'", "xmlns='u' xmlns:p='u' xmlns='u'", "xmlns:p='u' xmlns:q='v' xmlns:r='w' xmlns:p='u'",
	} {
		wrong(t, "<a "+s+"/>", "<a "+s+"></a>", "<z><a "+s+"/></z>")
	}
	for s, want := range map[string][]api.Attr{
		"xmlns:p='u' xmlns:q='v' p:b='1' q:b='2' b='3'": {{Space: "u", Name: "b", Value: "1"}, {Space: "v", Name: "b", Value: "2"}, attr("b", "3")},
		"xmlns:p='u' xmlns:q='u' p:b='1' q:c='2'":       {{Space: "u", Name: "b", Value: "1"}, {Space: "u", Name: "c", Value: "2"}},
		"xmlns='u' xmlns:p='u' p:b='1' b='2'":           {{Space: "u", Name: "b", Value: "1"}, attr("b", "2")}, // without a prefix there is no Space
		"xmlns:b='u' b='1'":                             {attr("b", "1")},
		"xmlns:p='u' p:p='1' p:q='2'":                   {{Space: "u", Name: "p", Value: "1"}, {Space: "u", Name: "q", Value: "2"}},
		"xmlns:p='u' p:xmlns='1'":                       {{Space: "u", Name: "xmlns", Value: "1"}},
		"xmlns:p='xmlns' xmlns:q='v' p:p='1' p:q='2'":   {{Space: "xmlns", Name: "p", Value: "1"}, {Space: "xmlns", Name: "q", Value: "2"}},
		"xmlns:p='ub' xmlns:q='u' p:c='1' q:bc='2'":     {{Space: "ub", Name: "c", Value: "1"}, {Space: "u", Name: "bc", Value: "2"}},
		"xmlns:p='u ' xmlns:q='u' p:b='1' q:b='2'":      {{Space: "u ", Name: "b", Value: "1"}, {Space: "u", Name: "b", Value: "2"}},
	} {
		n := with(element("a"), want...)
		if strings.Contains(s, "xmlns='u'") {
			n.Space = "u"
		}
		parsed(t, "<a "+s+"/>", n)
	}
	// Many of them, all others.
	var s strings.Builder
	var want []api.Attr
	for i := range 6000 {
		name := fmt.Sprintf("b%d", i)
		s.WriteString(" " + name + "=''")
		want = append(want, attr(name, ""))
	}
	parsed(t, "<a"+s.String()+"/>", with(element("a"), want...))
	wrong(t, "<a"+s.String()+" b0=''/>", "<a"+s.String()+" b5999=''/>")
}

func TestParseSpaces(t *testing.T) { // P8.1
	for s, want := range map[string]api.Node{
		"<a xmlns='u'/>":                                                  in("u", element("a")),
		"<a xmlns='u'><b/><c><d/></c></a>":                                in("u", element("a", in("u", element("b")), in("u", element("c", in("u", element("d")))))),
		"<a xmlns='u'><b xmlns='v'><c/></b><d/></a>":                      in("u", element("a", in("v", element("b", in("v", element("c")))), in("u", element("d")))),
		"<a xmlns='u'><b xmlns=''><c/></b><d/></a>":                       in("u", element("a", element("b", element("c")), in("u", element("d")))),
		"<a xmlns=''/>":                                                   element("a"),
		"<a xmlns=''><b xmlns='u'/><c/></a>":                              element("a", in("u", element("b")), element("c")),
		"<a><b xmlns='u'/><c/></a>":                                       element("a", in("u", element("b")), element("c")),
		"<a><b xmlns='u'></b><c/></a>":                                    element("a", in("u", element("b")), element("c")),
		"<p:a xmlns:p='u'/>":                                              in("u", element("a")),
		"<p:a xmlns:p='u'><b/><p:c/></p:a>":                               in("u", element("a", element("b"), in("u", element("c")))),
		"<a xmlns:p='u'><p:b><p:c/></p:b><p:d/></a>":                      element("a", in("u", element("b", in("u", element("c")))), in("u", element("d"))),
		"<p:a xmlns:p='u'><p:b xmlns:p='v'><p:c/></p:b><p:d/></p:a>":      in("u", element("a", in("v", element("b", in("v", element("c")))), in("u", element("d")))),
		"<p:a xmlns:p='u'><p:b xmlns:p='v'/><p:d/></p:a>":                 in("u", element("a", in("v", element("b")), in("u", element("d")))),
		"<p:a xmlns:p='u'><q:b xmlns:q='u'/><q:b xmlns:q='v'/></p:a>":     in("u", element("a", in("u", element("b")), in("v", element("b")))),
		"<p:a xmlns:p='u' xmlns='v'><b/></p:a>":                           in("u", element("a", in("v", element("b")))),
		"<p:a xmlns:P='v' xmlns:p='u'><P:b/></p:a>":                       in("u", element("a", in("v", element("b")))),
		"<p:a b='1' xmlns:p='u' c='2'/>":                                  in("u", with(element("a"), attr("b", "1"), attr("c", "2"))),
		"<a xmlns='u' b='1'><c d='2'/></a>":                               in("u", with(element("a", in("u", with(element("c"), attr("d", "2")))), attr("b", "1"))),
		"<a xmlns:p='u'><b p:c='1'/></a>":                                 element("a", with(element("b"), api.Attr{Space: "u", Name: "c", Value: "1"})),
		"<a xmlns:p='u' p:c='1'><b xmlns:p='v' p:c='2'/><b p:c='3'/></a>": with(element("a", with(element("b"), api.Attr{Space: "v", Name: "c", Value: "2"}), with(element("b"), api.Attr{Space: "u", Name: "c", Value: "3"})), api.Attr{Space: "u", Name: "c", Value: "1"}),
		"<a p:b='1' xmlns:p='u'/>":                                        with(element("a"), api.Attr{Space: "u", Name: "b", Value: "1"}),
		"<a xmlns='&#117;&amp;' xmlns:p='&lt;'><p:b/></a>":                in("u&", element("a", in("<", element("b")))),
		"<a xmlns=' '/>":                                                  in(" ", element("a")),
		"<a xmlns = \"u\r\nv\rw\n&#13;\"/>":                               in("u\nv\nw\n\r", element("a")),
		"<a xmlns:p=' '><p:b/></a>":                                       element("a", in(" ", element("b"))),
		"<a xmlns:p='u' xmlns:q='p'><q:b/></a>":                           element("a", in("p", element("b"))), // what p stands for is nothing to q
		"<xmlns xmlns='u'/>":                                              in("u", element("xmlns")),
		"<a XMLNS='u' xmlnsp='v' Xmlns='w'/>":                             with(element("a"), attr("XMLNS", "u"), attr("xmlnsp", "v"), attr("Xmlns", "w")),
	} {
		parsed(t, s, want)
	}
}

func TestParseNoSpaces(t *testing.T) { // P8.1
	wrong(t,
		"<p:a/>", "<p:a></p:a>", "<a p:b=''/>", "<a><p:b/></a>", "<a><b p:c=''/></a>", "<a xmlns='u'><p:b/></a>", "<a xmlns='u' p:b=''/>", "<p:a xmlns='u'/>", "<p:a xmlns:q='u'/>", "<P:a xmlns:p='u'/>", "<p:a xmlns:pp='u'/>", "<xmlnsp:a/>", "<XML:a/>", "<Xml:a/>", "<p:a p='u'/>", "<p:a p:p='u'/>", "<u:a xmlns:p='u'/>",
		// Only behind the element's end, or beside it.
		"<a><b xmlns:p='u'/><p:c/></a>", "<a><b xmlns:p='u'></b><p:c/></a>", "<a><b xmlns:p='u'><c/></b><d p:e=''/></a>", "<a><p:b/><c xmlns:p='u'/></a>", "<p:a><b xmlns:p='u'/></p:a>", "<a><b><c xmlns:p='u'/></b><p:d/></a>", "<a><b xmlns:p='u'/></a><p:c/>", "<a p:b=''><c xmlns:p='u'/></a>", "<a><p:b xmlns:p='u'/><p:c/></a>", "<a><b xmlns:q='v' xmlns:p='u'><c xmlns:r='w'/><r:d/></b></a>", "<a><p:b xmlns:p='u'></p:b><p:b></p:b></a>",
		// Prefixes that are to stand for the empty Space, or have no name.
		"<a xmlns:p=''/>", "<a xmlns:p=\"\"></a>", "<p:a xmlns:p=''/>", "<a xmlns:p='u'><b xmlns:p=''/></a>", "<a xmlns='' xmlns:p=''/>", "<a xmlns:='u'/>", "<a xmlns:=''/>", "<a xmlns: ='u'/>", "<a xmlns:>", "<a xmlns/>", "<a xmlns:p/>", "<a xmlns=u/>", "<a xmlns='<'/>", "<a xmlns:p='&'/>", "<a xmlns='&#0;'/>",
	)
}

func TestParseXmlPrefix(t *testing.T) { // P8.1
	parsed(t, "<xml:a/>", in(xmlSpace, element("a")))
	parsed(t, "<xml:a xml:b='1' b='2'><xml:c></xml:c><d/></xml:a>", in(xmlSpace, with(element("a", in(xmlSpace, element("c")), element("d")), api.Attr{Space: xmlSpace, Name: "b", Value: "1"}, attr("b", "2"))))
	parsed(t, "<a xmlns='u' xmlns:p='v' xml:lang='e'><xml:b/></a>", in("u", with(element("a", in(xmlSpace, element("b"))), api.Attr{Space: xmlSpace, Name: "lang", Value: "e"})))
	parsed(t, "<p:a xmlns:p='"+xmlSpace+"'/>", in(xmlSpace, element("a")))
	parsed(t, "<a xml:xmlns='1'/>", with(element("a"), api.Attr{Space: xmlSpace, Name: "xmlns", Value: "1"}))
	if xmlSpace != "http://www.w3.org/XML/1998/namespace" {
		t.Error("another Space")
	}
}

func TestParseData(t *testing.T) { // P8.1
	for s, want := range map[string]string{
		"<![CDATA[x]]>": "x", "<![CDATA[]]>": "", "<![CDATA[]]>x<![CDATA[]]>": "x", "<![CDATA[ ]]>": " ", "<![CDATA[<b/>&amp;&nope;&#1;&]]>": "<b/>&amp;&nope;&#1;&", "<![CDATA[]]]>": "]", "<![CDATA[]]]]>": "]]", "<![CDATA[>]]>": ">", "<![CDATA[]>]]>": "]>", "<![CDATA[] ]>]]>": "] ]>",
		"<![CDATA[]]]]><![CDATA[>]]>": "]]>", "<![CDATA[x]]]]><![CDATA[>y]]>": "x]]>y", "]]<![CDATA[>]]>": "]]>", "<![CDATA[]]]]>>": "]]>", "]<![CDATA[]]]>>": "]]>", "x<![CDATA[y]]>z": "xyz", "&lt;<![CDATA[&lt;]]>&lt;": "<&lt;<",
		"<![CDATA[<![CDATA[]]>": "<![CDATA[", "<![CDATA[<!-- -- -->]]>": "<!-- -- -->", "<![CDATA[-->?></a>]]>": "-->?></a>", "<![CDATA[\r\n\r\t]]>": "\n\n\t", "<![CDATA[[]]>": "[",
	} {
		kids := []api.Node{text(want)}
		if want == "" {
			kids = nil
		}
		parsed(t, "<a>"+s+"</a>", element("a", kids...))
		parsed(t, "<a><b/>"+s+"<c>"+s+"</c></a>", element("a", append(append([]api.Node{element("b")}, kids...), element("c", kids...))...))
	}
	for _, s := range []string{"<![CDATA[", "<![CDATA[]", "<![CDATA[]]", "<![CDATA[x", "<![CDATA[]] >", "<![CDATA[] ]>", "<![CDATA[x]>", "<![CDATA", "<![CDATA]]>", "<![cdata[x]]>", "<![CDATA [x]]>", "<! [CDATA[x]]>", "<![ CDATA[x]]>", "<![CDATa[x]]>", "<![INCLUDE[x]]>", "<![CDATA[x]]>]]>", "<![CDATA[x<![CDATA[y]]>]]>", "<[CDATA[x]]>"} {
		wrong(t, "<a>"+s+"</a>", "<a><b/>"+s+"</a>")
	}
	wrong(t, "<![CDATA[x]]>", "<![CDATA[<a/>]]>", "<![CDATA[]]><a/>", "<a/><![CDATA[]]>", "<a/><![CDATA[ ]]>", "<a <![CDATA[]]>/>", "<a b=<![CDATA['1']]>/>", "<a b='<![CDATA[1]]>'/>", "<a><![CDATA[</a>]]>")
}

func TestParseTextsWithBrackets(t *testing.T) { // P8.1
	for _, s := range []string{"]", "]]", ">", "]>", "]] >", "] ]>", ">]]", "]]]", "]]&gt;", "]&#93;>", "&#93;]>", "]]<!---->>", "]]<?x?>>", "]<!---->]>", "]]]]"} {
		want := strings.NewReplacer("&gt;", ">", "&#93;", "]", "<!---->", "", "<?x?>", "").Replace(s)
		parsed(t, "<a>"+s+"</a>", element("a", text(want)))
	}
	wrong(t, "<a>]]></a>", "<a>x]]></a>", "<a>]]>x</a>", "<a>]]]></a>", "<a>]]>]]></a>", "<a><b/>]]></a>", "<a>]]><b/></a>", "<a>&amp;]]></a>", "<a>]]>&amp;</a>", "<a><b>]]></b></a>", "<a><![CDATA[]]>]]></a>", "<a>\r]]>\n</a>", "<a><!---->]]></a>")
}

// references and what they stand for.
func references() map[string]string {
	return map[string]string{
		"&amp;": "&", "&lt;": "<", "&gt;": ">", "&quot;": `"`, "&apos;": "'",
		"&#65;": "A", "&#x41;": "A", "&#X41;": "A", "&#0000065;": "A", "&#x000041;": "A", "&#9;": "\t", "&#10;": "\n", "&#13;": "\r", "&#x9;": "\t", "&#xA;": "\n", "&#xa;": "\n", "&#xD;": "\r", "&#32;": " ", "&#x20;": " ", "&#127;": "\x7f", "&#128;": "\u0080", "&#xe9;": "é", "&#xEf;": "ï",
		"&#55295;": "\ud7ff", "&#xE000;": "\ue000", "&#xFEFF;": "\ufeff", "&#65533;": "\ufffd", "&#xFFFD;": "\ufffd", "&#x10000;": "\U00010000", "&#x1FFFE;": "\U0001fffe", "&#x1F600;": "😀", "&#1114111;": "\U0010ffff", "&#x10FFFF;": "\U0010ffff", "&#x10ffff;": "\U0010ffff", "&#38;": "&", "&#60;": "<", "&#x26;": "&",
	}
}

// notReferences begin with an & all the same.
func notReferences() []string {
	return []string{
		"&", "&;", "& ", "& amp;", "&amp", "&amp ;", "&Amp;", "&AMP;", "&nope;", "&nbsp;", "&copy;", "&lt", "&LT;", "&lt&gt;", "&amp&amp;", "&&amp;", "&&", "&&#1;", "&a&#65;", "&é;", "&quote;", "&ap;", "&aposs;", "&a:b;",
		"&#;", "&#", "&#65", "&# 65;", "&#65 ;", "&#-65;", "&#+65;", "&#6 5;", "&#A;", "&#xG;", "&#x;", "&#X;", "&#x", "&x41;", "&#x41", "&#0x41;", "&##65;", "&#xx41;", "&#1_0;", "&#6é;", "&#１;", "&65;",
		"&#00000065;", "&#x0000041;", "&#11141110;", "&#x1000000;", strings.Repeat("&#0", 3), "&#" + strings.Repeat("0", 100) + "65;", "&" + strings.Repeat("a", 1000) + ";", // too long
		"&#0;", "&#00;", "&#x0;", "&#0000000;", "&#x000000;", "&#1;", "&#8;", "&#11;", "&#12;", "&#14;", "&#31;", "&#x1;", "&#xB;", "&#xC;", "&#xE;", "&#x1F;", "&#xFFFE;", "&#xFFFF;", "&#65534;", "&#65535;", "&#xD800;", "&#xDFFF;", "&#55296;", "&#57343;", "&#xDBFF;", "&#xdc00;", "&#xd83d;&#xde00;", "&#1114112;", "&#x110000;", "&#9999999;", "&#xFFFFFF;", // none of XML's
	}
}

func TestParseReferences(t *testing.T) { // P8.1
	all, said := "", ""
	for s, want := range references() {
		all, said = all+s, said+want
		for ahead, behind := range map[string]string{"": "", "x": "y", "é": ";", ";": "amp;", "]]": "]]", "#": "x41;", " ": "\n"} {
			parsed(t, "<a>"+ahead+s+behind+"</a>", element("a", text(ahead+want+behind)))
			parsed(t, "<a b='"+ahead+s+behind+"'/>", with(element("a"), attr("b", ahead+want+behind)))
			parsed(t, "<a><![CDATA["+ahead+s+behind+"]]></a>", element("a", text(ahead+s+behind)))
		}
		parsed(t, `<a b="`+s+`" c='`+s+`'>`+s+"<b/>"+s+"</a>", with(element("a", text(want), element("b"), text(want)), attr("b", want), attr("c", want)))
		parsed(t, "<a xmlns='"+s+"'/>", in(want, element("a")))
		parsed(t, "<a xmlns:p='"+s+"'><p:b/></a>", element("a", in(want, element("b"))))
		parsed(t, "<a><!--"+s+"--></a>", element("a"))
	}
	parsed(t, "<a b='"+all+"'>"+all+"</a>", with(element("a", text(said)), attr("b", said)))
	// What is replaced isn't looked at again.
	parsed(t, "<a b='&amp;lt;'>&amp;amp;&#38;lt;&amp;#65;</a>", with(element("a", text("&amp;&lt;&#65;")), attr("b", "&lt;")))
	parsed(t, "<a b='&#60;b/>'>&lt;b/>&lt;!--</a>", with(element("a", text("<b/><!--")), attr("b", "<b/>")))
	parsed(t, `<a b="&quot; c=&#34;">]]&gt;</a>`, with(element("a", text("]]>")), attr("b", `" c="`)))
	for _, s := range notReferences() {
		wrong(t, "<a>"+s+"</a>", "<a>x"+s+"y</a>", "<a>&lt;"+s+"&lt;</a>", "<a>"+s+"<b/></a>", "<a><b/>"+s+"</a>", "<a><b>"+s+"</b></a>", "<a b='"+s+"'/>", `<a b="x`+s+`y"></a>`, "<a b='&lt;"+s+"'/>", "<a b='1' c='"+s+"'/>", "<a xmlns='"+s+"'/>", "<a xmlns:p='"+s+"'/>")
		parsed(t, "<a><![CDATA["+s+"]]><!--"+s+"--><?x "+s+"?></a>", element("a", text(s)))
		parsed(t, "<?x "+s+"?><a/><!--"+s+"-->", element("a"))
	}
	// One isn't put together of two parts.
	wrong(t, "<a>&am<!---->p;</a>", "<a>&amp<!---->;</a>", "<a>&<![CDATA[amp;]]></a>", "<a>&amp<![CDATA[;]]></a>", "<a>&#<?x?>65;</a>", "<a>&lt<b/>;</a>", "<a b='&amp' c=';'/>", "<a b='&'>amp;</a>")
	wrong(t, "<a>"+strings.Repeat("&lt;", 10000)+"&</a>", "<a>"+strings.Repeat("&", 60000)+";</a>", "<a b='"+strings.Repeat("&", 60000)+"'/>")
}

func TestParseReferencesByNumber(t *testing.T) { // P8.1
	for n := range 0x110010 {
		if n >= 0x3000 && n%0x100 > 2 && n%0x100 < 0xfd {
			continue
		}
		point := n == 9 || n == 0xa || n == 0xd || n >= 0x20 && n < 0xd800 || n > 0xdfff && n < 0xfffe || n > 0xffff && n < 0x110000
		for _, s := range []string{fmt.Sprintf("&#%d;", n), fmt.Sprintf("&#x%X;", n)} {
			if point {
				parsed(t, "<a>"+s+"</a>", element("a", text(string(rune(n)))))
				continue
			}
			wrong(t, "<a>"+s+"</a>", "<a b='"+s+"'/>")
		}
	}
}

func TestParseLineFeeds(t *testing.T) { // P8.1
	for s, want := range map[string]string{
		"\n": "\n", "\r": "\n", "\r\n": "\n", "\n\r": "\n\n", "\r\r": "\n\n", "\r\r\n": "\n\n", "\r\n\r\n": "\n\n", "\r\n\n": "\n\n", "\n\r\n": "\n\n", "\r\n\r": "\n\n", "x\r\ny\rz\n": "x\ny\nz\n", "\r \n": "\n \n", "\t\r\t": "\t\n\t",
	} {
		parsed(t, "<a>"+s+"</a>", element("a", text(want)))
		parsed(t, "<a b='"+s+"'/>", with(element("a"), attr("b", want)))
		parsed(t, "<a b=\"x"+s+"x\"/>", with(element("a"), attr("b", "x"+want+"x")))
		parsed(t, "<a><![CDATA["+s+"]]></a>", element("a", text(want)))
		parsed(t, "<a><![CDATA["+s+"]]>x"+s+"<b/>"+s+"</a>", element("a", text(want+"x"+want), element("b"), text(want)))
		parsed(t, "<a xmlns='u"+s+"'/>", in("u"+want, element("a")))
	}
	for s, want := range map[string]string{
		"&#13;": "\r", "&#xD;": "\r", "&#10;": "\n", "&#13;&#10;": "\r\n", "&#13;\n": "\r\n", "\r&#10;": "\n\n", "&#13;\r\n": "\r\n", "\r\n&#13;\r": "\n\r\n", "&#13;&#13;": "\r\r", "&amp;#13;": "&#13;", "\r&#13;": "\n\r",
	} {
		parsed(t, "<a>"+s+"</a>", element("a", text(want)))
		parsed(t, "<a b='"+s+"'/>", with(element("a"), attr("b", want)))
		parsed(t, "<a xmlns='"+s+"'/>", in(want, element("a")))
		parsed(t, "<a><![CDATA["+s+"]]></a>", element("a", text(feedsOracle(s))))
	}
	// A return at the end of one part has no line feed behind it.
	parsed(t, "<a>x\r<!---->\ny</a>", element("a", text("x\n\ny")))
	parsed(t, "<a>\r<![CDATA[\n]]></a>", element("a", text("\n\n")))
	parsed(t, "<a><![CDATA[\r]]>\n</a>", element("a", text("\n\n")))
}

func TestParseTexts(t *testing.T) { // P8.1
	parsed(t, "<a>1<!--2-->3<?x 4?>5<![CDATA[6]]>7&lt;<![CDATA[<]]><!----><?y?>8</a>", element("a", text("13567<<8")))
	parsed(t, "<a><!----><b/><!----><?x?><b/><![CDATA[]]></a>", element("a", element("b"), element("b")))
	parsed(t, "<a>1<b>2<c>3</c>4</b>5<d/>6</a>", element("a", text("1"), element("b", text("2"), element("c", text("3")), text("4")), text("5"), element("d"), text("6")))
	parsed(t, "<a><![CDATA[]]><!----><![CDATA[]]></a>", element("a"))
	parsed(t, "<a>1<b><![CDATA[]]></b>2</a>", element("a", text("1"), element("b"), text("2")))
	parsed(t, "<a>  \t<b/>\n</a>", element("a", text("  \t"), element("b"), text("\n")))
	many := strings.Repeat("x<!---->", 8000)
	parsed(t, "<a>"+many+"</a>", element("a", text(strings.Repeat("x", 8000))))
	n, e := xml.Parse([]byte("<a>" + strings.Repeat("x<b/>", 13000) + "</a>"))
	if e != api.OK || len(n.Kids) != 26000 || !same(n.Kids[25998], text("x")) || !same(n.Kids[25999], element("b")) {
		t.Errorf("Parse of many texts: %v, %d", e, len(n.Kids))
	}
}

// places in a document, between two of which something may be put.
func places() []string {
	return []string{"", "<?x", " y", "?>", "<!--", "z", "-->", " ", "<a", " ", "b", " ", "=", " ", "'", "1", "'", " ", "xmlns:p", "=", "\"", "u", "\"", ">", "t", "&lt;", "<![CDATA[", "d", "]]>", "<!--", "-->", "<p:c", "/>", "</a", " ", ">", " ", "<!---->", ""}
}

func TestParseNoText(t *testing.T) { // P8.1
	whole := strings.Join(places(), "")
	if _, e := xml.Parse([]byte(whole)); e != api.OK {
		t.Fatalf("Parse(%q): %v", whole, e)
	}
	bad := []string{"\x80", "\xbf", "\xc0", "\xff", "\xfe", "\xe2\x82", "\xc0\x80", "\xc1\xbf", "\xe0\x80\x80", "\xed\xa0\x80", "\xed\xbf\xbf", "\xf0\x80\x80\x80", "\xf4\x90\x80\x80", "\xf8\x88\x80\x80\x80", "\ufffe", "\uffff"}
	for c := range 0x20 {
		if c != 9 && c != 0xa && c != 0xd {
			bad = append(bad, string(rune(c)))
		}
	}
	for _, b := range bad {
		for at := range places() {
			wrong(t, strings.Join(places()[:at], "")+b+strings.Join(places()[at:], ""))
		}
		wrong(t, b, "\ufeff"+b, "<a/>"+b, b+"<a/>", "<!--"+b+"--><a/>", "<a><?x "+b+"?></a>", "<a><![CDATA["+b+"]]></a>", "<a>"+b+"</a>", "<a b='"+b+"'/>", "<a"+b+"/>", "<a xmlns='"+b+"'/>")
		// It counts ahead of all else, wherever it is.
		wrong(t, strings.Repeat("<a>", 25)+b, strings.Repeat("<a>", 1000)+strings.Repeat("</a>", 1000)+b)
	}
	for _, ok := range []string{"\t", "\n", " ", "\x7f", "\u0080", "\u009f", "\u2028", "\ufdd0", "\ufffd", "\U0001fffe", "\U0001ffff", "\U0010ffff"} {
		parsed(t, "<a><!--"+ok+"--><?x "+ok+"?>"+ok+"<![CDATA["+ok+"]]></a>", element("a", text(ok+ok)))
		parsed(t, "<a b='"+ok+"'/>", with(element("a"), attr("b", ok)))
	}
}

func TestParseEveryPoint(t *testing.T) { // P8.1
	for r := range rune(0x110000) {
		if r >= 0xd800 && r <= 0xdfff || r >= 0x3000 && r%0x100 > 2 && r%0x100 < 0xfd {
			continue
		}
		s := "<a><![CDATA[" + string(r) + "]]></a>"
		if r < 0x20 && r != '\t' && r != '\n' && r != '\r' || r == 0xfffe || r == 0xffff {
			wrong(t, s)
			continue
		}
		parsed(t, s, element("a", text(feedsOracle(string(r)))))
	}
}

func TestParseEnds(t *testing.T) { // P8.1
	for _, s := range []string{
		strings.TrimSuffix(strings.Join(places(), ""), " <!---->"), `<a xmlns="u" b="&lt;"><x:c xmlns:x="v">t<!--r-->&amp;</x:c></a>`, "\ufeff<?xml version='1.0'?>\n<!-- é -->\n<é b = 'c'/>", strings.Repeat("<a b=''>", 24) + strings.Repeat("</a>", 24), "<a><b/>t<![CDATA[]]]]>&#x41;<?y??></a >",
	} {
		if _, e := xml.Parse([]byte(s)); e != api.OK {
			t.Errorf("Parse(%q): %v", s, e)
		}
		for at := range len(s) {
			wrong(t, s[:at])
		}
	}
	if n, e := xml.Parse(nil); e != api.ErrForm || !isZero(n) {
		t.Errorf("Parse(nil): %s %v", show(n), e)
	}
	if n, e := xml.Parse([]byte{}); e != api.ErrForm || !isZero(n) {
		t.Errorf("Parse of none: %s %v", show(n), e)
	}
}

func TestParseLong(t *testing.T) { // P8.1
	if api.MaxBody != 65536 || api.MaxDepth != 24 {
		t.Fatal("other limits")
	}
	for _, n := range []int{65535, 65536} {
		parsed(t, "<a/>"+strings.Repeat(" ", n-4), element("a"))
		parsed(t, strings.Repeat("\n", n-4)+"<a/>", element("a"))
		parsed(t, "\ufeff<a/>"+strings.Repeat(" ", n-7), element("a"))
		parsed(t, "<a>"+strings.Repeat("t", n-7)+"</a>", element("a", text(strings.Repeat("t", n-7))))
		parsed(t, "<a><![CDATA["+strings.Repeat("]", n-19)+"]]></a>", element("a", text(strings.Repeat("]", n-19))))
		parsed(t, "<a b='"+strings.Repeat("\r", n-9)+"'/>", with(element("a"), attr("b", strings.Repeat("\n", n-9))))
		parsed(t, "<"+strings.Repeat("a", n-3)+"/>", element(strings.Repeat("a", n-3)))
		parsed(t, "<a/><!--"+strings.Repeat("a", n-11)+"-->", element("a"))
		wrong(t, strings.Repeat(" ", n), strings.Repeat("\xff", n), strings.Repeat("<", n), "<a "+strings.Repeat("b", n-3), "<a>"+strings.Repeat("<", n-3), "<!--"+strings.Repeat("-", n-4), "<a>"+strings.Repeat("]", n-3), "<a>"+strings.Repeat("&", n-3))
		refused(t, strings.Repeat("<a>", n/3), api.ErrDeep)
	}
	for _, n := range []int{65537, 65538, 1 << 17, 1 << 24} {
		for _, s := range []string{"<", " ", "a", "\xff", "\x00", "&"} {
			refused(t, strings.Repeat(s, n), api.ErrLong)
		}
		for _, s := range []string{"<a/>" + strings.Repeat(" ", n-4), strings.Repeat("\n", n-4) + "<a/>", "\ufeff<a/>" + strings.Repeat(" ", n-7), "<a>" + strings.Repeat("t", n-7) + "</a>", "<a b='" + strings.Repeat("\r", n-9) + "'/>", strings.Repeat("<a>", 25) + strings.Repeat(" ", n-75), "<a>\xff" + strings.Repeat("t", n-8) + "</a>"} {
			if len(s) != n {
				t.Fatalf("%d bytes", len(s))
			}
			refused(t, s, api.ErrLong)
		}
	}
}

// nested elements: so many around, and the node that is within.
func nested(n int, within ...api.Node) api.Node {
	e := element("a", within...)
	for range n - 1 {
		e = element("a", e)
	}
	return e
}

func TestParseDeep(t *testing.T) { // P8.1
	ahead, behind := func(n int) string { return strings.Repeat("<a>", n) }, func(n int) string { return strings.Repeat("</a>", n) }
	for _, n := range []int{22, 23, 24} {
		parsed(t, ahead(n)+behind(n), nested(n))
		parsed(t, ahead(n)+"t<!--<a>--><![CDATA[<a>]]><?a <a>?>&lt;a>"+behind(n), nested(n, text("t<a><a>")))
		parsed(t, "<!---->\n"+ahead(n)+"t"+behind(n)+"\n<?x?>", nested(n, text("t")))
		for _, s := range []string{"<b/>", "<b></b>", "<b>t</b>", "<b c='1' d='2'/>", "<p:b xmlns:p='u'/>", "<!----><b></b>"} {
			if _, e := xml.Parse([]byte(ahead(n) + s + behind(n))); e != map[bool]api.Errno{true: api.OK, false: api.ErrDeep}[n < 24] {
				t.Errorf("Parse of %s in %d: %v", s, n, e)
			}
		}
	}
	for _, n := range []int{25, 26, 48, 1000} {
		for _, s := range []string{ahead(n) + behind(n), ahead(n), ahead(n) + "t", ahead(n-1) + "<a/>" + behind(n-1), ahead(n-1) + "<a/>", "\ufeff<?x?>" + ahead(n) + "</b>", ahead(n) + behind(n) + "<b/>", ahead(n) + "&", ahead(n) + "<"} {
			refused(t, s, api.ErrDeep)
		}
	}
	// What is closed again counts no more.
	most := ahead(23) + "<b/><b></b>" + behind(23)
	refused(t, "<a>"+most+"</a>", api.ErrDeep)
	if n, e := xml.Parse([]byte("<a>" + strings.Repeat(most, 50) + "<c/></a>")); e != api.ErrDeep || !isZero(n) {
		t.Errorf("Parse of many that are 25 deep: %v", e)
	}
	most = ahead(22) + "<b/><b></b>" + behind(22)
	if n, e := xml.Parse([]byte("<a>" + strings.Repeat(most, 50) + "<c/></a>")); e != api.OK || len(n.Kids) != 51 {
		t.Errorf("Parse of many that are 24 deep: %v", e)
	}
	refused(t, "<a>"+strings.Repeat(most, 50)+ahead(24)+"</a>", api.ErrDeep)
}

func TestParseWrongAndDeep(t *testing.T) { // P8.1
	ahead, behind := strings.Repeat("<a>", 24), strings.Repeat("</a>", 24)
	for _, deep := range []string{"<b/>", "<b></b>", "<b>", "<b >", "<b c=''>", "<p:b xmlns:p='u'/>"} {
		// Wrong ahead of it.
		for _, s := range []string{"]]>", "&", "&nope;", "&#1;", "<!-- -- -->", "<!--", "<? ?>", "<?x", "<![CDATA[", "<!x>", "</b>", "</p:a>", "</>", "<", "< ", "<1", "t]]>t&lt;", behind + "t", behind + "<![CDATA[]]>"} {
			wrong(t, ahead+s+deep+behind, ahead+s+deep, ahead+s)
		}
		for at := 0; at < len(ahead); at += 3 {
			wrong(t, ahead[:at]+"<"+ahead[at:]+deep, ahead[:at+1]+" "+ahead[at+1:]+deep, ahead[:at+2]+" b='1' b='2'"+ahead[at+2:]+deep, ahead[:at+2]+" p:b=''"+ahead[at+2:]+deep, ahead[:at+1]+"p:"+ahead[at+1:]+deep, ahead[:at+2]+" xmlns:p=''"+ahead[at+2:]+deep)
		}
		// Wrong within it, and behind it.
		for _, s := range []string{"]]>", "&", "&nope;", "<!-- -- -->", "<!--", "<? ?>", "<![CDATA[", "<!x>", "</c>", "<", "<a b='' b=''/>", "<p2:a/>", "<a xmlns:p=''/>", behind + "t", "<b/><b", ""} {
			refused(t, ahead+deep+s+behind, api.ErrDeep)
			refused(t, ahead+deep+s, api.ErrDeep)
			refused(t, ahead+deep+behind+s+"t", api.ErrDeep)
		}
		wrong(t, "<a/>"+ahead+deep, behind+ahead+deep, "t"+ahead+deep)
	}
	// Wrong in its own tag, the names of which count behind all of it.
	for _, s := range []string{
		"<b", "<b ", "<b/", "<b c", "<b c=", "<b c='", "<b c=''", "<b c='' ", "<b/ >", "<1>", "<b:>", "<:b>", "<b c=''d=''>", "<b c='<'>", "<b c='&'>", "<b c='&#1;'>", "<b c=d>", "<b 1=''>", "<b<b>", "< b>", "<b c=''/ >",
		"<b c='' c=''>", "<b c='' c=''/>", "<p:b>", "<p:b/>", "<b p:c=''>", "<b p:c=''/>", "<b xmlns:p=''>", "<b xmlns:p=''/>", "<b xmlns:=''>", "<b xmlns='' xmlns=''>", "<b xmlns:p='u' xmlns:p='u'/>", "<b xmlns:p='u' xmlns:q='u' p:c='' q:c=''/>", "<b xmlns:p='u' q:c=''/>", "<q:b xmlns:p='u'/>",
	} {
		wrong(t, ahead+s, ahead+s+"</b>"+behind, ahead+s+behind, ahead+"t"+s)
	}
	// Wrong ahead of it in a tag that is read before it.
	wrong(t, "<p:a>"+strings.Repeat("<a>", 24), "<a b='' b=''>"+strings.Repeat("<a>", 24), "<a xmlns:p=''>"+strings.Repeat("<a>", 24))
	refused(t, "<a>"+strings.Repeat("<a>", 24)+"</b>", api.ErrDeep)
}

func printed(t *testing.T, n api.Node, want string) {
	t.Helper()
	if s, e := xml.Print(n); s != want || e != api.OK {
		t.Errorf("Print(%s): %.300q %v, not %.300q", show(n), s, e, want)
		return
	}
	readAgain(t, n, want)
}

func notPrinted(t *testing.T, n api.Node) {
	t.Helper()
	if s, e := xml.Print(n); s != "" || e != api.ErrArg {
		t.Errorf("Print(%s): %.300q %v", show(n), s, e)
	}
}

func TestPrint(t *testing.T) { // P8.2
	for want, n := range map[string]api.Node{
		"<a/>": element("a"), "<xmlns/>": element("xmlns"), "<A.-_9é/>": element("A.-_9é"),
		`<a xmlns="u"/>`:                in("u", element("a")),
		"<a>t</a>":                      element("a", text("t")),
		"<a> </a>":                      element("a", text(" ")),
		"<a><b/></a>":                   element("a", element("b")),
		`<a b="1"/>`:                    with(element("a"), attr("b", "1")),
		`<a b=""/>`:                     with(element("a"), attr("b", "")),
		`<a c="1" b="2" B="2"><d/></a>`: with(element("a", element("d")), attr("c", "1"), attr("b", "2"), attr("B", "2")),
		`<a xmlns="u" b="1">t</a>`:      in("u", with(element("a", text("t")), attr("b", "1"))),
		"<a>1<b>2</b>3<c/>4</a>":        element("a", text("1"), element("b", text("2")), text("3"), element("c"), text("4")),
		"<a><a><a/></a><a/></a>":        element("a", element("a", element("a")), element("a")),
		"<a>&lt;&gt;&amp;&quot;&#39;]]&gt;&amp;lt;é😀\n\t \u2028\x7f\ufffd\ufeff</a>":                                 element("a", text("<>&\"']]>&lt;é😀\n\t \u2028\x7f\ufffd\ufeff")),
		`<a b="&lt;&gt;&amp;&quot;&#39;]]&gt;&#10;&#9; &#10;&#10;&amp;#10;é"/>`:                                      with(element("a"), attr("b", "<>&\"']]>\n\t \n\n&#10;é")),
		`<a xmlns="&lt;&gt;&amp;&quot;&#39;&#10;&#9; é" b="1"/>`:                                                     in("<>&\"'\n\t é", with(element("a"), attr("b", "1"))),
		`<a xmlns="http://www.w3.org/XML/1998/namespace"/>`:                                                          in(xmlSpace, element("a")),
		`<a b="` + strings.Repeat("&#10;&#9;", 100) + `">` + strings.Repeat("\n\t", 100) + "</a>":                    with(element("a", text(strings.Repeat("\n\t", 100))), attr("b", strings.Repeat("\n\t", 100))),
		`<a xml="1" p="2" xmlnsp="3" Xmlns="4"/>`:                                                                    with(element("a"), attr("xml", "1"), attr("p", "2"), attr("xmlnsp", "3"), attr("Xmlns", "4")),
		"<" + strings.Repeat("a", 1000) + " " + strings.Repeat("b", 1000) + `="` + strings.Repeat("c", 1000) + `"/>`: with(element(strings.Repeat("a", 1000)), attr(strings.Repeat("b", 1000), strings.Repeat("c", 1000))),
	} {
		printed(t, n, want)
	}
	// Nil and empty lists are one.
	printed(t, api.Node{Name: "a", Attrs: []api.Attr{}, Kids: []api.Node{}}, "<a/>")
	printed(t, element("a", api.Node{Text: "t", Attrs: []api.Attr{}, Kids: make([]api.Node, 0, 3)}), "<a>t</a>")
}

func TestPrintSpaces(t *testing.T) { // P8.2
	for want, n := range map[string]api.Node{
		`<a xmlns="u"><b/></a>`:                                           in("u", element("a", in("u", element("b")))),
		`<a xmlns="u"><b xmlns=""/></a>`:                                  in("u", element("a", element("b"))),
		`<a><b xmlns="u"/><c/></a>`:                                       element("a", in("u", element("b")), element("c")),
		`<a xmlns="u"><b xmlns="v"/><c/></a>`:                             in("u", element("a", in("v", element("b")), in("u", element("c")))),
		`<a xmlns="u"><b xmlns="v"><c xmlns="u"/><d/></b><e/></a>`:        in("u", element("a", in("v", element("b", in("u", element("c")), in("v", element("d")))), in("u", element("e")))),
		`<a xmlns="u"><b xmlns=""><c xmlns="u"><d xmlns=""/></c></b></a>`: in("u", element("a", element("b", in("u", element("c", element("d")))))),
		`<a xmlns="u"><b xmlns="v"/><b xmlns="v"/><b xmlns="U"/></a>`:     in("u", element("a", in("v", element("b")), in("v", element("b")), in("U", element("b")))),
		`<a><b xmlns="u" c="1">t<d e="2"/></b></a>`:                       element("a", in("u", with(element("b", text("t"), in("u", with(element("d"), attr("e", "2")))), attr("c", "1")))),
		`<a xmlns=" "><b xmlns="&#10;"/><c xmlns="  "/></a>`:              in(" ", element("a", in("\n", element("b")), in("  ", element("c")))),
		`<a><b><c xmlns="u"><d/></c></b><e/></a>`:                         element("a", element("b", in("u", element("c", in("u", element("d"))))), element("e")),
		`<a xmlns="xmlns"><xmlns xmlns="xml"/></a>`:                       in("xmlns", element("a", in("xml", element("xmlns")))),
	} {
		printed(t, n, want)
	}
}

// notRight are elements, each for one reason.
func notRight() map[string]api.Node {
	all := map[string]api.Node{"Text": {Name: "a", Text: "t"}, "Text with Kids": {Name: "a", Text: "t", Kids: []api.Node{element("b")}}, "a blank Text": {Name: "a", Text: " "}}
	noNames := []string{"1", "1a", "-", "-a", ".", ".a", ":", ":a", "a:", "a:b", "a b", " a", "a ", "a\n", "a/", "/a", "a>", "<a", "a<", "a=", "a\"", "a'", "a&", "&a", "a&amp;", "a;", "a!", "?a", "!--", "a\x00", "a\t", "a\r", "\x7f", "a\x7f", "a{", "a[", "a@", "a`", "[", "`", "@", "{", "a/b", "a,b"}
	noWords := []string{"\xff", "a\x80", "\xe2\x82", "\xed\xa0\x80", "\xc0\x80", "\xf4\x90\x80\x80", "\x00", "a\x01", "\x08", "\x0b", "\x0c", "\x0e", "\x1f", "\ufffe", "a\uffff"}
	for _, name := range slices.Concat(noNames, noWords, []string{"a\xff", "é\xc3", "a\ufffe"}) {
		all["Name "+name] = element(name)
		all["attribute "+name] = with(element("a"), attr(name, "1"))
		all["second attribute "+name] = with(element("a"), attr("b", "1"), attr(name, "1"))
	}
	all["attribute without a Name"] = with(element("a"), attr("", "1"))
	all["attribute xmlns"] = with(element("a"), attr("xmlns", "u"))
	all["attribute xmlns behind"] = in("u", with(element("a"), attr("b", "1"), attr("xmlns", "u")))
	all["attribute xmlns, empty"] = with(element("a"), attr("xmlns", ""))
	for _, space := range []string{"u", xmlSpace, " ", "\xff"} {
		all["attribute in "+space] = with(element("a"), api.Attr{Space: space, Name: "b", Value: "1"})
		all["attribute behind in "+space] = in("u", with(element("a"), attr("b", "1"), api.Attr{Space: space, Name: "c", Value: "1"}))
	}
	all["attribute twice"] = with(element("a"), attr("b", "1"), attr("b", "2"))
	all["attribute twice, alike"] = with(element("a"), attr("b", ""), attr("b", ""))
	all["attribute twice, apart"] = with(element("a"), attr("b", "1"), attr("c", "1"), attr("d", "1"), attr("b", "1"))
	for _, s := range append(noWords, "\r", "a\r", "\r\n", "\ra") {
		all["text "+s] = element("a", text(s))
		all["text behind "+s] = element("a", element("b"), text("t"+s))
		all["value "+s] = with(element("a"), attr("b", s))
		all["second value "+s] = with(element("a"), attr("b", "1"), attr("c", s+"t"))
		all["Space "+s] = in(s, element("a"))
		all["Space with "+s] = in("u"+s, element("a"))
	}
	all["empty text"] = element("a", text(""))
	all["empty text behind"] = element("a", element("b"), text(""))
	all["empty text ahead"] = element("a", text(""), element("b"))
	all["texts"] = element("a", text("t"), text("t"))
	all["texts behind"] = element("a", text("t"), element("b"), text("t"), text("t"))
	all["text and empty text"] = element("a", text("t"), text(""))
	all["three texts"] = element("a", text("t"), text("t"), text("t"))
	all["text with Attrs"] = element("a", api.Node{Text: "t", Attrs: []api.Attr{attr("b", "1")}})
	all["text with Kids"] = element("a", api.Node{Text: "t", Kids: []api.Node{element("b")}})
	all["text with a text"] = element("a", api.Node{Text: "t", Kids: []api.Node{text("t")}})
	all["text with a Space"] = element("a", api.Node{Text: "t", Space: "u"})
	all["text with the Space around"] = in("u", element("a", api.Node{Text: "t", Space: "u"}))
	all["no Name but Kids"] = element("a", element("", element("b")))
	all["no Name but Attrs"] = element("a", with(element(""), attr("b", "1")))
	return all
}

func TestPrintNotRight(t *testing.T) { // P8.2
	for why, n := range notRight() {
		notPrinted(t, n)
		notPrinted(t, element("z", n))
		notPrinted(t, element("z", n, element("y")))
		notPrinted(t, element("z", text("t"), element("y"), n))
		notPrinted(t, element("z", text("t"), n, text("t")))
		notPrinted(t, in("u", with(element("z", element("y", element("x", n)), element("w")), attr("b", "1"))))
		notPrinted(t, nested(22, n))
		notPrinted(t, nested(30, n))
		if t.Failed() {
			t.Fatal(why)
		}
	}
	// What is no element.
	for _, n := range []api.Node{{}, text("t"), text("<a/>"), {Space: "u"}, {Space: "u", Text: "t"}, with(element(""), attr("b", "1")), element("", element("a")), element("", text("t")), {Text: "t", Kids: []api.Node{element("a")}}} {
		notPrinted(t, n)
	}
	// The last thing is wrong, and the first.
	notPrinted(t, with(element("a", text("t"), element("b")), attr("b", "1"), attr("c", "2"), attr("b", "3")))
	kids := make([]api.Node, 1000)
	for i := range kids {
		kids[i] = element("b")
	}
	printed(t, element("a", kids...), "<a>"+strings.Repeat("<b/>", 1000)+"</a>")
	for _, at := range []int{0, 1, 500, 998, 999} {
		others := slices.Clone(kids)
		others[at] = text("")
		notPrinted(t, element("a", others...))
		others[at] = element("b", text("\r"))
		notPrinted(t, element("a", others...))
	}
}

func TestPrintNames(t *testing.T) { // P8.2
	for c := range rune(0x200) {
		front := isLetter(c) || c == '_' || c >= 0x80
		behind := front || c >= '0' && c <= '9' || c == '-' || c == '.'
		for name, right := range map[string]bool{string(c): front, string(c) + "a": front, "a" + string(c): behind, "a" + string(c) + "b": behind, "é-" + string(c): behind} {
			n, m := element(name, element(name, text("t"))), with(element("a"), attr(name, "1"))
			if !right {
				notPrinted(t, n)
				notPrinted(t, m)
				continue
			}
			printed(t, n, "<"+name+"><"+name+">t</"+name+"></"+name+">")
			printed(t, m, "<a "+name+`="1"/>`)
		}
	}
}

func TestPrintEveryPoint(t *testing.T) { // P8.2
	for r := range rune(0x110000) {
		if r >= 0xd800 && r <= 0xdfff || r >= 0x3000 && r%0x100 > 2 && r%0x100 < 0xfd {
			continue
		}
		s := string(r)
		n := in("u"+s, with(element("a", text(s)), attr("b", s)))
		if r < 0x20 && r != '\t' && r != '\n' || r == 0xfffe || r == 0xffff {
			notPrinted(t, element("a", text(s)))
			notPrinted(t, with(element("a"), attr("b", s)))
			notPrinted(t, in("u"+s, element("a")))
			continue
		}
		text := s
		if at := strings.IndexByte(`&<>"'`, s[0]); at >= 0 {
			text = []string{"&amp;", "&lt;", "&gt;", "&quot;", "&#39;"}[at]
		}
		value := text
		if r == '\t' || r == '\n' {
			value = fmt.Sprintf("&#%d;", r)
		}
		printed(t, n, `<a xmlns="u`+value+`" b="`+value+`">`+text+"</a>")
	}
}

func TestPrintDeep(t *testing.T) { // P8.2
	for _, n := range []int{1, 22, 23, 24} {
		ahead, behind := strings.Repeat("<a>", n-1), strings.Repeat("</a>", n-1)
		printed(t, nested(n), ahead+"<a/>"+behind)
		printed(t, nested(n, text("t")), ahead+"<a>t</a>"+behind)
	}
	for _, n := range []int{24, 25, 26, 1000, 1 << 16} {
		notPrinted(t, nested(n, element("b")))
		notPrinted(t, nested(n, text("t"), element("b"), text("t")))
		notPrinted(t, nested(n+1))
		notPrinted(t, nested(n+1, text("t")))
	}
	// The deepest one counts, wherever it is.
	for at := range 3 {
		for n, want := range map[int]api.Errno{22: api.OK, 23: api.OK, 24: api.ErrArg} {
			kids := []api.Node{element("b"), element("c", element("d")), element("e")}
			kids[at] = nested(n)
			if _, e := xml.Print(element("z", kids...)); e != want {
				t.Errorf("Print of one at %d, %d deep: %v", at, n+1, e)
			}
		}
	}
	most := nested(23)
	if s, e := xml.Print(element("z", most, most, most)); e != api.OK || strings.Count(s, "<a>") != 66 {
		t.Errorf("Print of three that are 24 deep: %v", e)
	}
}

func TestPrintLong(t *testing.T) { // P8.2
	for _, n := range []int{65535, 65536, 65537, 1 << 20} {
		for _, v := range []api.Node{
			element("a", text(strings.Repeat("t", n-7))), with(element("a"), attr("b", strings.Repeat("v", n-9))), in(strings.Repeat("u", n-13), element("a")), element(strings.Repeat("n", n-3)), with(element("a"), attr(strings.Repeat("n", n-8), "")),
		} {
			s, e := xml.Print(v)
			if len(s) != n || e != api.OK {
				t.Errorf("Print of %d bytes: %d bytes, %v", n, len(s), e)
			}
			readAgain(t, v, s)
		}
	}
	printed(t, element("a", text(strings.Repeat("\"", 20000))), "<a>"+strings.Repeat("&quot;", 20000)+"</a>")
	wide := element("a", slices.Repeat([]api.Node{element("b")}, 1<<17)...)
	printed(t, wide, "<a>"+strings.Repeat("<b/>", 1<<17)+"</a>")
}

func TestPrintWhatWasRead(t *testing.T) { // P8.2
	for s, want := range map[string]string{
		"<?x?><p:a xmlns:p='u' b='1'>\r\n<!---->x<![CDATA[<]]><c/></p:a >": "<a xmlns=\"u\" b=\"1\">\nx&lt;<c xmlns=\"\"/></a>",
		"<a xmlns='u'><p:b xmlns:p='u'/><p:c xmlns:p='v'><d/></p:c></a>":   `<a xmlns="u"><b/><c xmlns="v"><d xmlns="u"/></c></a>`,
		"<xml:a/>": `<a xmlns="http://www.w3.org/XML/1998/namespace"/>`,
		strings.Repeat("<a>", 24) + "t" + strings.Repeat("</a>", 24): strings.Repeat("<a>", 24) + "t" + strings.Repeat("</a>", 24),
		"<a b='&#9;&#10;&#32;'>&#9;&#10;</a>":                        "<a b=\"&#9;&#10; \">\t\n</a>",
	} {
		n, e := xml.Parse([]byte(s))
		if e != api.OK {
			t.Errorf("Parse(%q): %v", s, e)
		}
		printed(t, n, want)
	}
	for _, s := range []string{"<a>&#13;</a>", "<a b='&#13;'/>", "<a xmlns='&#13;'/>", "<a xml:lang='e'/>", "<a xmlns:p='u' p:b=''/>", "<a><b>x&#xD;&#xA;</b></a>"} {
		n, e := xml.Parse([]byte(s))
		if e != api.OK {
			t.Errorf("Parse(%q): %v", s, e)
		}
		notPrinted(t, n)
	}
}

// found holds Find and All against the places among n's Kids of what they tell.
func found(t *testing.T, n api.Node, space, name string, at ...int) {
	t.Helper()
	all := xml.All(n, space, name)
	first, ok := xml.Find(n, space, name)
	if len(all) != len(at) || ok != (len(at) > 0) || !ok && !isZero(first) {
		t.Errorf("of %s, %q %q: %d of All, %s %v", show(n), space, name, len(all), show(first), ok)
		return
	}
	for i, place := range at {
		if !same(all[i], n.Kids[place]) || i == 0 && !same(first, n.Kids[place]) {
			t.Errorf("of %s, %q %q: %s", show(n), space, name, show(all[i]))
		}
	}
}

func TestFind(t *testing.T) { // P8.3
	n := in("w", element("a",
		element("b", text("0")), text("t"), in("u", element("b", text("2"))), with(element("b"), attr("c", "3")), element("B"), in("v", element("b")), in("u", element("c", element("b"), element("d"))), in("u", element("b", text("7"))), in("w", element("d", element("e"))), text("b")))
	found(t, n, "", "b", 0, 3)
	found(t, n, "u", "b", 2, 7)
	found(t, n, "v", "b", 5)
	found(t, n, "", "B", 4)
	found(t, n, "u", "c", 6)
	found(t, n, "w", "d", 8)
	for _, none := range [][2]string{{"", "c"}, {"", "d"}, {"w", "b"}, {"w", "a"}, {"", "a"}, {"", "e"}, {"w", "e"}, {"", "t"}, {"U", "b"}, {"u", "B"}, {"u ", "b"}, {"", " b"}, {"u", "d"}, {"b", "u"}, {"", "bb"}, {"", ""}, {"u", ""}, {"w", ""}, {"", "\xff"}, {"\xff", "b"}, {"u:", "b"}, {"", "u:b"}, {"", strings.Repeat("b", 1000)}} {
		found(t, n, none[0], none[1])
	}
	found(t, element("a"), "", "a")
	found(t, element("a"), "", "")
	found(t, api.Node{}, "", "")
	found(t, text("b"), "", "b")
	found(t, text("b"), "", "")
	found(t, element("a", text("b"), text("b")), "", "b")
	found(t, element("b", element("a", element("b"))), "", "b")
	found(t, element("a", element("b")), "", "b", 0)
	found(t, in("u", element("a", in("u", element("b")))), "u", "b", 0)
	found(t, in("u", element("a", in("u", element("b")))), "", "b")
	found(t, element("a", element("b"), element("b"), element("b")), "", "b", 0, 1, 2)
	found(t, element("a", element("b", text("same")), element("b", text("same"))), "", "b", 0, 1)
	many := element("a", slices.Repeat([]api.Node{element("b"), text("t"), in("u", element("b"))}, 1000)...)
	if all := xml.All(many, "u", "b"); len(all) != 1000 || !same(all[999], in("u", element("b"))) {
		t.Errorf("All of many: %d", len(all))
	}
	// Texts have no name, whatever else they have.
	odd := element("a", api.Node{Space: "u", Text: "t"}, with(element("", element("b")), attr("b", "1")), api.Node{})
	found(t, odd, "u", "")
	found(t, odd, "", "")
	found(t, odd, "", "b")
	// Elements that aren't right are found as they are, byte for byte.
	odd = element("a", api.Node{Name: "b c", Space: "\xff", Text: "t", Attrs: []api.Attr{attr("", "\r"), attr("", "")}, Kids: []api.Node{text(""), text("")}}, element("\xff"), element("\ufffd"), element("\xfe"))
	found(t, odd, "\xff", "b c", 0)
	found(t, odd, "", "\xff", 1)
	found(t, odd, "", "\ufffd", 2)
	found(t, odd, "\ufffd", "b c")
}

func TestValue(t *testing.T) { // P8.3
	n := with(element("a", with(element("b"), attr("k", "kid"))), api.Attr{Space: "u", Name: "b", Value: "in u"}, attr("b", "1"), attr("c", ""), attr("b", "2"), attr("é", "<&\r"), api.Attr{Space: "u", Name: "d", Value: "in u"}, attr("B", "3"))
	for name, want := range map[string]string{"b": "1", "c": "", "é": "<&\r", "B": "3", "d": "", "k": "", "a": "", "": "", "u": "", " b": "", "b ": "", "bb": "", "u:b": "", "e\u0301": "", "\xff": "", "1": "", "xmlns": ""} {
		if got := xml.Value(n, name); got != want {
			t.Errorf("Value(%q): %q, not %q", name, got, want)
		}
	}
	for _, none := range []api.Node{{}, text("b"), element("b"), element("a", n), with(element("a"), api.Attr{Space: "u", Name: "b", Value: "1"})} {
		if got := xml.Value(none, "b"); got != "" {
			t.Errorf("Value of %s: %q", show(none), got)
		}
	}
	// The first one counts, though its value is empty.
	if got := xml.Value(with(element("a"), attr("b", ""), attr("b", "2")), "b"); got != "" {
		t.Errorf("Value of the second one: %q", got)
	}
	if got := xml.Value(with(element("a"), attr("\ufffd", "1"), attr("\xff", "2")), "\xff"); got != "2" {
		t.Errorf("Value of bytes: %q", got)
	}
	read, _ := xml.Parse([]byte("<a xmlns='u' xmlns:p='v' p:b='1' c='2' xml:c='3'/>"))
	for name, want := range map[string]string{"b": "", "c": "2", "p:b": "", "xmlns": "", "xmlns:p": "", "p": ""} {
		if got := xml.Value(read, name); got != want {
			t.Errorf("Value(%q) of what was read: %q", name, got)
		}
	}
}

func TestInner(t *testing.T) { // P8.3
	for want, all := range map[string][]api.Node{
		"":           {{}, element("a"), element("a", element("b"), element("c", element("d"))), with(in("u", element("a")), attr("b", "1")), {Space: "u"}},
		"t":          {text("t"), element("a", text("t")), element("a", element("b", element("c", text("t")))), in("u", element("a", element("b"), text("t"))), element("t", with(element("u", text("t")), attr("v", "w")))},
		"12345":      {text("12345"), element("a", text("1"), element("b", text("2"), element("c", text("3")), text("4")), text("5")), element("a", text("12"), text("34"), text("5")), element("a", element("b", text("123")), element("b"), element("b", text("45")))},
		" x\n <&\r ": {text(" x\n <&\r "), element("a", text(" x"), element("b", text("\n ")), text("<&\r "))},
		"\xff\xfe":   {text("\xff\xfe"), element("a", text("\xff"), element("b"), text("\xfe"))},
	} {
		for _, n := range all {
			if got := xml.Inner(n); got != want {
				t.Errorf("Inner(%s): %q, not %q", show(n), got, want)
			}
		}
	}
	n, _ := xml.Parse([]byte("<a b='v'>1<!--r-->2<?i j?><b>3<c>&lt;</c></b><![CDATA[<d/>]]><e/>\r\n</a>"))
	if got := xml.Inner(n); got != "123<<d/>\n" {
		t.Errorf("Inner of what was read: %q", got)
	}
	wide := element("a", slices.Repeat([]api.Node{element("b", text("12")), text("3")}, 20000)...)
	if got := xml.Inner(wide); got != strings.Repeat("123", 20000) {
		t.Errorf("Inner of many: %d bytes", len(got))
	}
}

func TestManyLevels(t *testing.T) { // every call ends
	const n = 1 << 16
	deep := nested(n, text("t"), element("b"))
	notPrinted(t, deep)
	if got := xml.Inner(deep); got != "t" {
		t.Errorf("Inner: %q", got)
	}
	if got, ok := xml.Find(deep, "", "a"); !ok || xml.Inner(got) != "t" {
		t.Errorf("Find: %v", ok)
	}
	if got := xml.All(deep, "", "a"); len(got) != 1 || xml.Inner(got[0]) != "t" {
		t.Errorf("All: %d", len(got))
	}
	if got := xml.Value(deep, "a"); got != "" {
		t.Errorf("Value: %q", got)
	}
}
