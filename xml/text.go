package xml

import (
	"strings"

	"broadsheet/api"
	"broadsheet/esc"
	"broadsheet/utf"
)

// content of an element, from the front on.
type content struct {
	kids []api.Node
	text strings.Builder // of what no element has come behind yet
}

// add an element behind what there is.
func (c *content) add(n api.Node) {
	c.kids = append(c.all(), n)
}

// all there is, the text at its end with it.
func (c *content) all() []api.Node {
	if c.text.Len() > 0 {
		c.kids = append(c.kids, api.Node{Text: c.text.String()})
		c.text.Reset()
	}
	return c.kids
}

// lineFeeds in the place of returns, one also of a return and a line feed.
func lineFeeds(s string) string {
	return strings.ReplaceAll(strings.ReplaceAll(s, "\r\n", "\n"), "\r", "\n")
}

// unwritten text or value: what it stands for; false, if an & begins no
// reference. Line feeds come first, so returns that are written as references
// stay.
func unwritten(s string) (string, bool) {
	var b strings.Builder
	for s = lineFeeds(s); ; {
		ahead, behind, found := strings.Cut(s, "&")
		b.WriteString(ahead)
		if !found {
			return b.String(), true
		}
		name, rest, closed := strings.Cut(behind, ";")
		point, ok := reference("&" + name + ";")
		if !closed || !ok {
			return "", false
		}
		b.WriteString(point)
		s = rest
	}
}

// reference answers the text of the code point that all of s stands for; false,
// if it isn't one reference, or XML has no such code point.
func reference(s string) (string, bool) {
	// What isn't replaced leaves two code points at least: the & and the ;.
	point := esc.Unhtml(s)
	return point, len(utf.Points(point)) == 1 && isPlain(point)
}
