package link

import "strings"

// small makes capital letters small: of ASCII alone, since a link has no others.
func small(s string) string {
	text := []byte(s)
	for i, c := range text {
		if c >= 'A' && c <= 'Z' {
			text[i] = c - 'A' + 'a'
		}
	}
	return string(text)
}

func canonPort(scheme string, port int) int {
	if scheme == "http" && port == 80 || scheme == "https" && port == 443 {
		return 0
	}
	return port
}

func canonPath(s string) string {
	path := Dots(unescape(s))
	if path == "" {
		return "/"
	}
	return path
}

// canonQuery leaves out what says only from where a link was followed.
func canonQuery(s string) string {
	var kept []string
	for _, part := range strings.Split(unescape(s), "&") {
		if !strings.HasPrefix(part, "utm_") {
			kept = append(kept, part)
		}
	}
	return strings.Join(kept, "&")
}

// unescape writes each % with two hexadecimal digits in its one form. What
// comes of one may be a digit that a % ahead of it lacks (not in a link that
// was parsed); it counts as such, or else the answer's own form would be another.
func unescape(s string) string {
	var text []byte
	for i := range len(s) {
		text = settle(append(text, s[i]))
	}
	return string(text)
}

// settle writes the end of a text in its one form.
func settle(text []byte) []byte {
	for {
		at := len(text) - 3
		if at < 0 || !isEscape(string(text[at:])) {
			return text
		}
		c := hexValue(text[at+1])<<4 | hexValue(text[at+2])
		if !standsForItself(c) {
			const digits = "0123456789ABCDEF"
			text[at+1], text[at+2] = digits[c>>4], digits[c&0xF]
			return text
		}
		text = append(text[:at], c)
	}
}

func standsForItself(c byte) bool {
	switch c {
	case '-', '.', '_', '~':
		return true
	}
	return isLetter(c) || isDigit(c)
}

// hexValue of a hexadecimal digit.
func hexValue(c byte) byte {
	switch {
	case isDigit(c):
		return c - '0'
	case c >= 'a':
		return c - 'a' + 10
	}
	return c - 'A' + 10
}
