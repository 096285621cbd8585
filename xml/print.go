package xml

import (
	"strings"

	"broadsheet/api"
	"broadsheet/esc"
)

// isRight says whether an element may be written, with at most so many elements
// within one another. It goes no deeper than that.
func isRight(n api.Node, depth int) bool {
	return depth > 0 && isRightName(n.Name) && isWritable(n.Space) && n.Text == "" && areRightAttrs(n.Attrs) && areRightKids(n.Kids, depth-1)
}

func isRightName(s string) bool {
	return isName(s) && isWritable(s)
}

// isWritable text: it is read again as it is.
func isWritable(s string) bool {
	return isPlain(s) && !strings.Contains(s, "\r")
}

func areRightAttrs(attrs []api.Attr) bool {
	for _, a := range attrs {
		if a.Space != "" || a.Name == "xmlns" || !isRightName(a.Name) || !isWritable(a.Value) {
			return false
		}
	}
	return areUnique(attrs)
}

func areRightKids(kids []api.Node, depth int) bool {
	for i, kid := range kids {
		if !isText(kid) {
			if !isRight(kid, depth) {
				return false
			}
			continue
		}
		beside := i > 0 && isText(kids[i-1])
		if beside || !isRightText(kid) {
			return false
		}
	}
	return true
}

func isRightText(n api.Node) bool {
	return n.Text != "" && isWritable(n.Text) && n.Space == "" && len(n.Attrs) == 0 && len(n.Kids) == 0
}

// write a right node that stands in an element of that Space.
func write(b *strings.Builder, n api.Node, around string) {
	if isText(n) {
		b.WriteString(esc.Html(n.Text))
		return
	}
	b.WriteByte('<')
	b.WriteString(n.Name)
	if n.Space != around {
		writeAttribute(b, "xmlns", n.Space)
	}
	for _, a := range n.Attrs {
		writeAttribute(b, a.Name, a.Value)
	}
	if len(n.Kids) == 0 {
		b.WriteString("/>")
		return
	}
	b.WriteByte('>')
	for _, kid := range n.Kids {
		write(b, kid, n.Space)
	}
	b.WriteString("</")
	b.WriteString(n.Name)
	b.WriteByte('>')
}

func writeAttribute(b *strings.Builder, name, value string) {
	value = strings.ReplaceAll(esc.Html(value), "\n", "&#10;")
	value = strings.ReplaceAll(value, "\t", "&#9;")
	b.WriteByte(' ')
	b.WriteString(name)
	b.WriteString(`="`)
	b.WriteString(value)
	b.WriteByte('"')
}
