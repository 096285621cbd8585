package esc

import (
	"strings"

	"broadsheet/utf"
)

const (
	mostDigits    = 7
	mostHexDigits = 6

	// longest is how much may stand behind the & of a reference: #, seven
	// digits and ;, or #x, six digits and ;. Looking no further keeps a text
	// of many bare & from being gone through anew for each of them.
	longest = 9
)

// reference answers what the & ahead of s stands for, and how many bytes of s
// belong to it: a bare & stands for itself and takes none.
func reference(s string) (text string, width int) {
	name, _, closed := strings.Cut(s[:min(len(s), longest)], ";")
	if closed {
		text = named(name)
	}
	if text == "" {
		return "&", 0
	}
	return text, len(name) + 1
}

// named answers the text that the reference of that name stands for, or "".
func named(name string) string {
	switch name {
	case "amp":
		return "&"
	case "lt":
		return "<"
	case "gt":
		return ">"
	case "quot":
		return "\""
	case "apos":
		return "'"
	}
	n := numbered(name)
	if n < 1 {
		return ""
	}
	// Make refuses what is no code point, and answers "" beside its error.
	text, _ := utf.Make([]int{n})
	return text
}

// numbered answers the number that the name of a reference tells, or -1.
func numbered(name string) int {
	digits, ok := strings.CutPrefix(name, "#")
	if !ok {
		return -1
	}
	if hex, ok := cutX(digits); ok {
		return number(hex, 16, mostHexDigits)
	}
	return number(digits, 10, mostDigits)
}

func cutX(s string) (behind string, found bool) {
	if s != "" && (s[0] == 'x' || s[0] == 'X') {
		return s[1:], true
	}
	return "", false
}

// number answers the number of one to most digits of that base, or -1. The
// few digits that are asked for cannot come to more than an int holds.
func number(digits string, base, most int) int {
	if digits == "" || len(digits) > most {
		return -1
	}
	n := 0
	for i := range len(digits) {
		d := digit(digits[i])
		if d < 0 || d >= base {
			return -1
		}
		n = n*base + d
	}
	return n
}

// digit answers what a hexadecimal digit counts, or -1.
func digit(c byte) int {
	switch {
	case c >= '0' && c <= '9':
		return int(c - '0')
	case c >= 'a' && c <= 'f':
		return int(c-'a') + 10
	case c >= 'A' && c <= 'F':
		return int(c-'A') + 10
	}
	return -1
}
