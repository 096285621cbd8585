package esc

import (
	"strings"
	"unicode/utf8"
)

// unitWidth is how many bytes \u and its four digits have.
const unitWidth = 6

// writeInQuotes writes a code point as Json has it. <, > and & are told by
// their numbers so that the text may stand in a script of a page.
func writeInQuotes(b *strings.Builder, r rune) {
	switch r {
	case '"', '\\':
		b.WriteByte('\\')
		b.WriteRune(r)
	case '\n':
		b.WriteString(`\n`)
	case '\r':
		b.WriteString(`\r`)
	case '\t':
		b.WriteString(`\t`)
	case 0x7F, 0x2028, 0x2029, '<', '>', '&':
		writeUnit(b, r)
	default:
		if r < 0x20 {
			writeUnit(b, r)
			return
		}
		b.WriteRune(r)
	}
}

// writeUnit writes \u and the four digits of a number below 10000 (hexadecimal).
func writeUnit(b *strings.Builder, r rune) {
	const digits = "0123456789abcdef"
	b.WriteString(`\u`)
	for i := range 4 {
		b.WriteByte(digits[r>>(12-4*i)&0xF])
	}
}

// isQuoted asks for two quotes: one alone isn't both the first and the last.
func isQuoted(s string) bool {
	return len(s) >= 2 && s[0] == '"' && s[len(s)-1] == '"'
}

// quotedPoint answers the first code point of a text that stood in quotes and
// isn't empty, and of how many bytes it is: of none, if it may not stand there.
func quotedPoint(s string) (point rune, width int) {
	switch {
	case s[0] == '\\':
		return escaped(s)
	case s[0] == '"' || s[0] < 0x20:
		return 0, 0
	}
	return utf8.DecodeRuneInString(s)
}

// escaped is quotedPoint of what begins with \.
func escaped(s string) (point rune, width int) {
	if len(s) < 2 {
		return 0, 0
	}
	switch s[1] {
	case '"', '\\', '/':
		return rune(s[1]), 2
	case 'b':
		return '\b', 2
	case 'f':
		return '\f', 2
	case 'n':
		return '\n', 2
	case 'r':
		return '\r', 2
	case 't':
		return '\t', 2
	}
	return units(s)
}

// units answers the code point of one \u with its digits, or of the pair that
// one above FFFF is written by.
func units(s string) (point rune, width int) {
	high := unit(s)
	if high < 0 || isLow(high) {
		return 0, 0
	}
	if !isHigh(high) {
		return rune(high), unitWidth
	}
	low := unit(s[unitWidth:])
	if !isLow(low) {
		return 0, 0
	}
	return rune(0x10000 + (high-0xD800)<<10 + (low - 0xDC00)), 2 * unitWidth
}

// unit answers the number of the \u and its four digits that s begins with, or -1.
func unit(s string) int {
	if len(s) < unitWidth || s[0] != '\\' || s[1] != 'u' {
		return -1
	}
	return number(s[2:unitWidth], 16, 4)
}

func isHigh(n int) bool {
	return n >= 0xD800 && n <= 0xDBFF
}

func isLow(n int) bool {
	return n >= 0xDC00 && n <= 0xDFFF
}
