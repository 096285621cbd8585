// Package utf is layer 1: texts as code points.
package utf

import (
	"strings"
	"unicode/utf8"

	"broadsheet/api"
)

// ellipsis stands for what Cut leaves out.
const ellipsis = "\u2026"

// Valid text?
func Valid(s string) bool {
	return utf8.ValidString(s)
}

// Points of a text, FFFD for each bad byte.
func Points(s string) []int {
	var points []int
	for _, r := range s {
		points = append(points, int(r))
	}
	return points
}

// Make a text of code points. ErrArg.
func Make(points []int) (string, api.Errno) {
	var b strings.Builder
	for _, p := range points {
		if !isPoint(p) {
			return "", api.ErrArg
		}
		b.WriteRune(rune(p))
	}
	return b.String(), api.OK
}

// Repair a text: FFFD in the place of each bad byte.
func Repair(s string) string {
	return keep(s, func(rune) bool { return true })
}

// Plain text: what XML may have of a repaired one.
func Plain(s string) string {
	return keep(s, inXML)
}

// Squeeze each row of blanks into one blank, and none at either end.
func Squeeze(s string) string {
	var b strings.Builder
	gap := false
	for _, r := range s {
		if isBlank(r) {
			gap = true
			continue
		}
		// A row of blanks counts only between two others, so it is written late.
		if gap && b.Len() > 0 {
			b.WriteByte(' ')
		}
		gap = false
		b.WriteRune(r)
	}
	return b.String()
}

// Cut a text to at most n code points, the last of them an ellipsis if some are missing.
func Cut(s string, n int) string {
	if n < 1 {
		return ""
	}
	if utf8.RuneCountInString(s) <= n {
		return Repair(s)
	}
	left := n - 1
	first := keep(s, func(rune) bool {
		left--
		return left >= 0
	})
	return first + ellipsis
}

// keep makes a text of those code points of s that wanted says yes to. It is
// always new memory, and needs no care for bad bytes: a range over a string
// tells each of them as FFFD already.
func keep(s string, wanted func(r rune) bool) string {
	var b strings.Builder
	for _, r := range s {
		if wanted(r) {
			b.WriteRune(r)
		}
	}
	return b.String()
}

// isPoint looks at the whole int, since a rune has fewer bits and would wrap round.
func isPoint(p int) bool {
	return (p >= 0 && p < 0xD800) || (p > 0xDFFF && p <= utf8.MaxRune)
}

func inXML(r rune) bool {
	switch r {
	case '\t', '\n', '\r':
		return true
	case 0xFFFE, 0xFFFF:
		return false
	}
	return r >= 0x20
}

func isBlank(r rune) bool {
	switch r {
	case ' ', '\t', '\n', '\r', '\f':
		return true
	}
	return false
}
