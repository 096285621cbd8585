package json

import (
	"strings"

	"broadsheet/api"
	"broadsheet/esc"
	"broadsheet/utf"
)

// isRight says whether a value may be written, with at most so many lists and
// objects within one another. It goes no deeper than that.
func isRight(v api.Json, depth int) bool {
	switch v.Kind {
	case api.JsonNull, api.JsonFalse, api.JsonTrue:
		return v.Text == "" && isSingle(v)
	case api.JsonNumber:
		return isNumber(v.Text) && isSingle(v)
	case api.JsonText:
		return utf.Valid(v.Text) && isSingle(v)
	case api.JsonList:
		return v.Text == "" && len(v.Names) == 0 && areRight(v.List, depth)
	case api.JsonObject:
		return v.Text == "" && len(v.Names) == len(v.List) && areTexts(v.Names) && areRight(v.List, depth)
	}
	return false
}

func isSingle(v api.Json) bool {
	return len(v.Names) == 0 && len(v.List) == 0
}

func areTexts(names []string) bool {
	for _, name := range names {
		if !utf.Valid(name) {
			return false
		}
	}
	return true
}

// areRight is isRight of what a list or an object has, of which the depth is
// told.
func areRight(list []api.Json, depth int) bool {
	if depth == 0 {
		return false
	}
	for _, member := range list {
		if !isRight(member, depth-1) {
			return false
		}
	}
	return true
}

// write a right value.
func write(b *strings.Builder, v api.Json) {
	switch v.Kind {
	case api.JsonNull:
		b.WriteString("null")
	case api.JsonFalse:
		b.WriteString("false")
	case api.JsonTrue:
		b.WriteString("true")
	case api.JsonNumber:
		b.WriteString(v.Text)
	case api.JsonText:
		b.WriteString(esc.Json(v.Text))
	case api.JsonList:
		writeMembers(b, v, '[', ']')
	case api.JsonObject:
		writeMembers(b, v, '{', '}')
	}
}

func writeMembers(b *strings.Builder, v api.Json, opening, closing byte) {
	b.WriteByte(opening)
	for i, member := range v.List {
		if i > 0 {
			b.WriteByte(',')
		}
		if v.Kind == api.JsonObject {
			b.WriteString(esc.Json(v.Names[i]))
			b.WriteByte(':')
		}
		write(b, member)
	}
	b.WriteByte(closing)
}
