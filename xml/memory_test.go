package xml_test

import (
	"bytes"
	"slices"
	"strings"
	"testing"
	"unsafe"

	"broadsheet/api"
	"broadsheet/xml"
)

// memory of a list, with its spare room. That of texts isn't looked at: nobody
// can change it.
type memory struct{ from, to uintptr }

func ofList[T any](l []T) memory {
	from := uintptr(unsafe.Pointer(unsafe.SliceData(l)))
	return memory{from, from + uintptr(cap(l))*unsafe.Sizeof(*new(T))}
}

// memories of all lists in some nodes.
func memories(some ...api.Node) []memory {
	var all []memory
	for _, n := range some {
		nodes(n, 0, func(n api.Node, _ int) {
			all = append(all, ofList(n.Attrs), ofList(n.Kids))
		})
	}
	return slices.DeleteFunc(all, func(m memory) bool { return m.from >= m.to })
}

// shared memory of an answer and arguments, or of two lists of the answer?
func shared(answer, given []memory) bool {
	for i, a := range answer {
		overlaps := func(b memory) bool { return a.from < b.to && b.from < a.to }
		if slices.ContainsFunc(given, overlaps) || slices.ContainsFunc(answer[:i], overlaps) {
			return true
		}
	}
	return false
}

// overwrite all that the lists of some nodes have room for.
func overwrite(some ...api.Node) {
	for _, n := range some {
		overwrite(n.Kids...)
		for i := range n.Kids[:cap(n.Kids)] {
			n.Kids[:cap(n.Kids)][i] = text("overwritten")
		}
		for i := range n.Attrs[:cap(n.Attrs)] {
			n.Attrs[:cap(n.Attrs)][i] = attr("overwritten", "overwritten")
		}
	}
}

// roomy node: each list has memory of its own with spare room, in which something
// stands.
func roomy(n api.Node) api.Node {
	attrs := append(slices.Clone(n.Attrs), attr("spare", "spare"), attr("spare", ""))
	var kids []api.Node
	for _, kid := range n.Kids {
		kids = append(kids, roomy(kid))
	}
	kids = append(kids, text("spare"), element("spare", text("spare")))
	return api.Node{Space: n.Space, Name: n.Name, Text: n.Text, Attrs: attrs[:len(n.Attrs)], Kids: kids[:len(n.Kids)]}
}

// sameRoom says whether two nodes are the same in their spare room too.
func sameRoom(a, b api.Node) bool {
	for i, kid := range a.Kids {
		if !sameRoom(kid, b.Kids[i]) {
			return false
		}
	}
	return same(a, b) && slices.Equal(a.Attrs[:cap(a.Attrs)], b.Attrs[:cap(b.Attrs)]) && slices.EqualFunc(a.Kids[:cap(a.Kids)], b.Kids[:cap(b.Kids)], same)
}

const kept = "<a xmlns='u' b='1' c='2' xmlns:p='v' p:d='3'>t<b/><p:b e='4' f='5'>1<c/>2<c/>3</p:b><b xmlns=''/><b>x<c g='6'/></b><p:b><p:b>y</p:b></p:b>&lt;</a>"

func TestParseKeepsNothing(t *testing.T) { // rule 5
	want, wrong := parseOracle([]byte(kept))
	given := append(make([]byte, 0, 400), kept...)
	spare := given[len(kept):cap(given)]
	for i := range spare {
		spare[i] = '7'
	}
	n, e := xml.Parse(given)
	if wrong != api.OK || e != api.OK || !same(n, want) {
		t.Fatalf("%s %v", show(n), e)
	}
	if string(given) != kept || !bytes.Equal(spare, bytes.Repeat([]byte("7"), len(spare))) {
		t.Errorf("Parse has changed its argument")
	}
	again, _ := xml.Parse(given)
	if shared(memories(n), memories(again)) {
		t.Errorf("what Parse answers shares memory")
	}
	clear(given[:cap(given)])
	if !same(n, want) {
		t.Errorf("Parse has kept its argument")
	}
	overwrite(n)
	if !same(again, want) {
		t.Errorf("two answers of Parse are one")
	}
	for _, s := range []string{"\ufeff" + kept, kept + "x", "\ufeff<a>\r\n</a>", strings.Repeat("<a>", 25), "<a>&lt;\r&amp;</a>"} {
		given := []byte(s)
		xml.Parse(given)
		if string(given) != s {
			t.Errorf("Parse has changed %q", s)
		}
	}
}

func TestFindKeepsNothing(t *testing.T) { // rule 5
	plain, _ := parseOracle([]byte(kept))
	n, untouched := roomy(plain), roomy(plain)
	for _, of := range [][2]string{{"u", "b"}, {"v", "b"}, {"", "b"}, {"", "c"}} {
		space, name := of[0], of[1]
		want := allOracle(plain, space, name)
		all, again := xml.All(n, space, name), xml.All(n, space, name)
		first, _ := xml.Find(n, space, name)
		second, _ := xml.Find(n, space, name)
		if !slices.EqualFunc(all, want, same) {
			t.Fatalf("All %q %q: %d", space, name, len(all))
		}
		answer := memories(all...)
		if cap(all) > 0 {
			answer = append(answer, ofList(all))
		}
		if shared(answer, memories(n)) || shared(answer, memories(again...)) {
			t.Errorf("what All %q %q answers shares memory", space, name)
		}
		if shared(memories(first), memories(n)) || shared(memories(first), answer) || shared(memories(first), memories(second)) {
			t.Errorf("what Find %q %q answers shares memory", space, name)
		}
		overwrite(all...)
		clear(all[:cap(all)])
		overwrite(first)
		if !sameRoom(n, untouched) || !slices.EqualFunc(again, want, same) || len(want) > 0 && !same(second, want[0]) {
			t.Errorf("All or Find %q %q has kept what it answered", space, name)
		}
	}
}

func TestFindOfOneList(t *testing.T) { // rule 5
	// Lists that are one in the argument are two in the answer.
	kids, attrs := []api.Node{text("t"), element("c"), text("s")}, []api.Attr{attr("d", "1"), attr("e", "2")}
	b := with(element("b", with(element("c", kids[:1]...), attrs[:1]...), with(element("c", kids...), attrs...)), attrs...)
	n := element("a", b, b, with(element("b", kids...), attrs...))
	all := xml.All(n, "", "b")
	if len(all) != 3 || shared(append(memories(all...), ofList(all)), memories(n)) {
		t.Errorf("lists of what All answers share memory")
	}
	overwrite(all[0])
	if !same(all[1], b) || !same(all[2], n.Kids[2]) {
		t.Errorf("lists of what All answers are one")
	}
	first, _ := xml.Find(n, "", "b")
	if shared(memories(first), memories(n)) {
		t.Errorf("lists of what Find answers share memory")
	}
}

func TestOthersChangeNothing(t *testing.T) { // rule 5
	plain, _ := parseOracle([]byte(kept))
	wrong := in("u", with(element("a", text("t"), text("s"), nested(30, text("\r"))), attr("b", "1"), attr("b", "2")))
	right := in("u", with(element("a", text("<t>"), in("v", with(element("b", element("c")), attr("d", "\n")))), attr("e", "\t"), attr("b", "")))
	for _, p := range []api.Node{plain, wrong, right, text("t"), element("a"), {}} {
		n, untouched := roomy(p), roomy(p)
		s, e := xml.Print(n)
		inner := xml.Inner(n)
		value := xml.Value(n, "b")
		if !sameRoom(n, untouched) {
			t.Errorf("Print, Inner or Value has changed its argument: %s", show(n))
		}
		overwrite(n)
		if again, e2 := xml.Print(untouched); again != s || e2 != e || xml.Inner(untouched) != inner || xml.Value(untouched, "b") != value {
			t.Errorf("Print of the same: %q %v, then %q %v", s, e, again, e2)
		}
	}
}
