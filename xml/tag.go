package xml

import "strings"

// tag that an element begins with.
type tag struct {
	name   qualified
	attrs  []attribute
	closed bool // by />: the element is no more than this tag
}

// attribute of a tag, its name as it is written.
type attribute struct {
	name  qualified
	value string
}

// tag, behind its <.
func (r *reader) tag() (tag, bool) {
	name, ok := r.qualified()
	if !ok {
		return tag{}, false
	}
	t := tag{name: name}
	for {
		apart := r.skip()
		switch {
		case r.take("/>"):
			t.closed = true
			return t, true
		case r.take(">"):
			return t, true
		case !apart:
			return tag{}, false
		}
		a, ok := r.attribute()
		if !ok {
			return tag{}, false
		}
		t.attrs = append(t.attrs, a)
	}
}

func (r *reader) attribute() (attribute, bool) {
	name, ok := r.qualified()
	if !ok {
		return attribute{}, false
	}
	r.skip()
	if !r.take("=") {
		return attribute{}, false
	}
	r.skip()
	value, ok := r.value()
	return attribute{name, value}, ok
}

// value in quotes of either kind, as what it stands for.
func (r *reader) value() (string, bool) {
	for _, quote := range []string{`"`, `'`} {
		if r.take(quote) {
			written, ended := r.upTo(quote)
			value, right := unwritten(written)
			return value, ended && right && !strings.Contains(written, "<")
		}
	}
	return "", false
}

func (r *reader) qualified() (qualified, bool) {
	first, ok := r.name()
	if !ok || !r.take(":") {
		return qualified{local: first}, ok
	}
	second, ok := r.name()
	return qualified{first, second}, ok
}

// name; false, if none stands there.
func (r *reader) name() (string, bool) {
	width := nameWidth(r.rest)
	// A copy: it is kept for longer than the whole document is.
	name := strings.Clone(r.rest[:width])
	r.rest = r.rest[width:]
	return name, width > 0
}
