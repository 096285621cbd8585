package link

import (
	"bytes"
	"strings"

	"broadsheet/api"
)

// against is the whole text that s stands for beside base, and whether dots
// are left out of its path.
func against(base api.Link, s string) (text string, dotted bool) {
	base.HasFragment = false
	switch {
	case hasScheme(s):
		return s, false
	case strings.HasPrefix(s, "//"):
		return base.Scheme + ":" + s, true
	case strings.HasPrefix(s, "/"):
		return root(base) + s, true
	case s == "", s[0] == '#':
		return Print(base) + s, false
	case s[0] == '?':
		base.HasQuery = false
		return Print(base) + s, false
	}
	return root(base) + folder(base.Path) + s, true
}

func hasScheme(s string) bool {
	first := strings.IndexAny(s, ":/?#")
	return first > 0 && s[first] == ':' && isLetter(s[0])
}

// folder is a path up to its last slash.
func folder(path string) string {
	last := strings.LastIndexByte(path, '/')
	if last < 0 {
		return "/"
	}
	return path[:last+1]
}

// withoutDots goes through the parts of a path, of which the first slash is
// taken off. What is left has a slash ahead of each part, so the last slash is
// where the last part is cut off again.
func withoutDots(parts string) string {
	var left []byte
	leftOut := false
	for more := true; more; {
		var part string
		part, parts, more = strings.Cut(parts, "/")
		leftOut = false
		switch part {
		case "..":
			left = left[:max(0, bytes.LastIndexByte(left, '/'))]
			fallthrough
		case ".":
			leftOut = true
		default:
			left = append(left, '/')
			left = append(left, part...)
		}
	}
	if leftOut {
		left = append(left, '/')
	}
	return string(left)
}
