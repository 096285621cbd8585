package xml

import (
	"strings"

	"broadsheet/api"
)

const blanks = " \t\n\r"

// reader of a document from the front on. Behind an error it reads no more.
type reader struct {
	rest  string // what isn't read yet
	open  int    // how many elements the rest stands in
	scope scope  // what prefixes stand for there
}

// document: an element, and nothing but what may stand around it.
func (r *reader) document() (api.Node, api.Errno) {
	if !r.around() || !r.take("<") {
		return api.Node{}, api.ErrForm
	}
	n, e := r.element()
	if e != api.OK {
		return api.Node{}, e
	}
	if !r.around() || r.rest != "" {
		return api.Node{}, api.ErrForm
	}
	return n, api.OK
}

// around reads the remarks, instructions and blanks that stand there; false, if
// one of them is none.
func (r *reader) around() bool {
	for {
		r.skip()
		switch {
		case r.take("<!--"):
			if !r.remark() {
				return false
			}
		case r.take("<?"):
			if !r.instruction() {
				return false
			}
		default:
			return true
		}
	}
}

// remark, behind what it begins with. Two hyphens may stand at its end alone.
func (r *reader) remark() bool {
	_, ok := r.upTo("--")
	return ok && r.take(">")
}

// instruction, behind what it begins with.
func (r *reader) instruction() bool {
	_, named := r.name()
	_, ended := r.upTo("?>")
	return named && ended
}

// element, behind the < of its start tag. What is wrong with that tag's names
// counts ahead of what is too deep, and both only behind all of it.
func (r *reader) element() (api.Node, api.Errno) {
	t, ok := r.tag()
	if !ok {
		return api.Node{}, api.ErrForm
	}
	n, inner, ok := r.scope.element(t)
	if !ok {
		return api.Node{}, api.ErrForm
	}
	if r.open == api.MaxDepth {
		return api.Node{}, api.ErrDeep
	}
	if t.closed {
		return n, api.OK
	}
	outer := r.scope
	r.scope = inner
	r.open++
	var e api.Errno
	n.Kids, e = r.content()
	if e != api.OK {
		return api.Node{}, e
	}
	r.open--
	r.scope = outer
	if !r.endOf(t) {
		return api.Node{}, api.ErrForm
	}
	return n, api.OK
}

// endOf a start tag, behind the </ of its end tag.
func (r *reader) endOf(t tag) bool {
	// A longer name that begins so has no > where one must be.
	if !r.take(t.name.written()) {
		return false
	}
	r.skip()
	return r.take(">")
}

// content of an element, and the </ behind it.
func (r *reader) content() ([]api.Node, api.Errno) {
	var c content
	for !r.take("</") {
		if e := r.part(&c); e != api.OK {
			return nil, e
		}
	}
	return c.all(), api.OK
}

// part of an element's content, put behind what it has.
func (r *reader) part(c *content) api.Errno {
	ok := true
	switch {
	case r.take("<!--"):
		ok = r.remark()
	case r.take("<?"):
		ok = r.instruction()
	case r.take("<![CDATA["):
		ok = r.data(c)
	case r.take("<"):
		n, e := r.element()
		if e != api.OK {
			return e
		}
		c.add(n)
	default:
		ok = r.text(c)
	}
	if !ok {
		return api.ErrForm
	}
	return api.OK
}

// data of CDATA, behind what it begins with.
func (r *reader) data(c *content) bool {
	data, ok := r.upTo("]]>")
	c.text.WriteString(lineFeeds(data))
	return ok
}

// text up to the next <. Without one no element would end.
func (r *reader) text(c *content) bool {
	width := strings.IndexByte(r.rest, '<')
	if width < 0 || strings.Contains(r.rest[:width], "]]>") {
		return false
	}
	text, ok := unwritten(r.rest[:width])
	c.text.WriteString(text)
	r.rest = r.rest[width:]
	return ok
}

// upTo answers what stands ahead of an end, and reads both; false, if there is
// no such end.
func (r *reader) upTo(end string) (ahead string, ok bool) {
	ahead, r.rest, ok = strings.Cut(r.rest, end)
	return ahead, ok
}

// take what is wanted; false, if it doesn't stand there.
func (r *reader) take(wanted string) bool {
	rest, ok := strings.CutPrefix(r.rest, wanted)
	r.rest = rest
	return ok
}

// skip blanks; false, if there are none.
func (r *reader) skip() bool {
	rest := strings.TrimLeft(r.rest, blanks)
	some := len(rest) < len(r.rest)
	r.rest = rest
	return some
}
