package json

import (
	"strings"

	"broadsheet/api"
	"broadsheet/esc"
)

// white is what may stand between the parts of a value.
const white = " \t\n\r"

// reader of a text from the front on. Behind an error it reads no more.
type reader struct {
	rest string // what isn't read yet
	open int    // how many lists and objects the rest stands in
}

// whole text: one value, and nothing behind it.
func (r *reader) whole() (api.Json, api.Errno) {
	v, e := r.value()
	if e != api.OK {
		return api.Json{}, e
	}
	r.skip()
	if r.rest != "" {
		return api.Json{}, api.ErrForm
	}
	return v, api.OK
}

func (r *reader) value() (api.Json, api.Errno) {
	switch {
	case r.take("["):
		return r.inside(api.JsonList, "]")
	case r.take("{"):
		return r.inside(api.JsonObject, "}")
	case r.take("null"):
		return api.Json{Kind: api.JsonNull}, api.OK
	case r.take("false"):
		return api.Json{Kind: api.JsonFalse}, api.OK
	case r.take("true"):
		return api.Json{Kind: api.JsonTrue}, api.OK
	}
	if number, ok := r.number(); ok {
		return api.Json{Kind: api.JsonNumber, Text: number}, api.OK
	}
	if text, ok := r.text(); ok {
		return api.Json{Kind: api.JsonText, Text: text}, api.OK
	}
	return api.Json{}, api.ErrForm
}

// inside a list or an object, behind the bracket or brace that opens it. That
// one is what may be too deep, whatever comes behind it.
func (r *reader) inside(kind api.JsonKind, closing string) (api.Json, api.Errno) {
	if r.open == api.MaxDepth {
		return api.Json{}, api.ErrDeep
	}
	r.open++
	v := api.Json{Kind: kind}
	for more := !r.take(closing); more; {
		if e := r.member(&v); e != api.OK {
			return api.Json{}, e
		}
		more = r.take(",")
		if !more && !r.take(closing) {
			return api.Json{}, api.ErrForm
		}
	}
	r.open--
	return v, api.OK
}

// member of v, put behind those that it has.
func (r *reader) member(v *api.Json) api.Errno {
	if v.Kind == api.JsonObject {
		name, ok := r.text()
		if !ok || !r.take(":") {
			return api.ErrForm
		}
		v.Names = append(v.Names, name)
	}
	member, e := r.value()
	if e != api.OK {
		return e
	}
	v.List = append(v.List, member)
	return api.OK
}

// number as it is written; false, if none stands there.
func (r *reader) number() (string, bool) {
	r.skip()
	rest, ok := behindNumber(r.rest)
	if !ok {
		return "", false
	}
	// A copy: it is kept for longer than the whole text is.
	number := strings.Clone(r.rest[:len(r.rest)-len(rest)])
	r.rest = rest
	return number, true
}

// text in quotes, as what it stands for; false, if none stands there.
func (r *reader) text() (string, bool) {
	r.skip()
	width := quotedWidth(r.rest)
	text, e := esc.Unjson(r.rest[:width])
	r.rest = r.rest[width:]
	return text, e == api.OK
}

// take what is wanted, and the white space ahead of it; false, if it doesn't
// stand there.
func (r *reader) take(wanted string) bool {
	r.skip()
	rest, ok := strings.CutPrefix(r.rest, wanted)
	r.rest = rest
	return ok
}

func (r *reader) skip() {
	r.rest = strings.TrimLeft(r.rest, white)
}
