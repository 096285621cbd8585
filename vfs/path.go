package vfs

import "strings"

const maxPart = 80

// Right path?
func Right(path string) bool {
	first, second, two := strings.Cut(path, "/")
	return isPart(first) && (!two || isPart(second))
}

// directory of a right path.
func directory(path string) string {
	dir, _, two := strings.Cut(path, "/")
	if !two {
		return ""
	}
	return dir
}

func isPart(s string) bool {
	if len(s) < 1 || len(s) > maxPart || s == "." || s == ".." {
		return false
	}
	for i := range len(s) {
		if !inPart(s[i]) {
			return false
		}
	}
	return true
}

func inPart(c byte) bool {
	switch {
	case c >= 'a' && c <= 'z', c >= 'A' && c <= 'Z', c >= '0' && c <= '9':
		return true
	}
	return c == '-' || c == '_' || c == '.'
}
