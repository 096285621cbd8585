package xml

import "broadsheet/api"

// binding says what a prefix stands for; the prefix "": what is without one.
type binding struct{ prefix, space string }

// scope has the bindings of a place, those of the inner elements behind those
// of the outer ones.
type scope []binding

func scopeAtFirst() scope {
	return scope{{"", ""}, {"xml", "http://www.w3.org/XML/1998/namespace"}}
}

// space answers what a prefix stands for; false, if it stands for nothing.
func (s scope) space(prefix string) (string, bool) {
	for i := len(s) - 1; i >= 0; i-- {
		if s[i].prefix == prefix {
			return s[i].space, true
		}
	}
	return "", false
}

// attribute answers one in its Space; false, if its prefix stands for nothing.
func (s scope) attribute(a attribute) (api.Attr, bool) {
	plain := api.Attr{Name: a.name.local, Value: a.value}
	if a.name.prefix == "" {
		// What xmlns stands for is for elements alone.
		return plain, true
	}
	var ok bool
	plain.Space, ok = s.space(a.name.prefix)
	return plain, ok
}

// with answers s and the bindings that a tag's attributes make, and the other
// attributes; false, if a binding is made twice or a prefix is to stand for the
// empty Space.
func (s scope) with(attrs []attribute) (inner scope, others []attribute, ok bool) {
	var made []api.Attr
	for _, a := range attrs {
		prefix, declares := a.name.declares()
		if !declares {
			others = append(others, a)
			continue
		}
		if prefix != "" && a.value == "" {
			return nil, nil, false
		}
		made = append(made, api.Attr{Name: prefix})
		// This may write over bindings of elements that are closed, no others.
		s = append(s, binding{prefix, a.value})
	}
	return s, others, areUnique(made)
}

// element of a start tag, without Kids, and the scope within it; false, if an
// attribute is there twice, or a prefix stands for nothing.
func (s scope) element(t tag) (n api.Node, inner scope, ok bool) {
	inner, attrs, ok := s.with(t.attrs)
	if !ok {
		return api.Node{}, nil, false
	}
	n.Name = t.name.local
	n.Space, ok = inner.space(t.name.prefix)
	if !ok {
		return api.Node{}, nil, false
	}
	for _, a := range attrs {
		plain, ok := inner.attribute(a)
		if !ok {
			return api.Node{}, nil, false
		}
		n.Attrs = append(n.Attrs, plain)
	}
	return n, inner, areUnique(n.Attrs)
}
