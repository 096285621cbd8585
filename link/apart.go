package link

import (
	"strconv"
	"strings"

	"broadsheet/api"
)

const (
	maxHost = 253
	maxPort = 65535
	mailto  = "mailto:"
	maxMail = 200
)

// apart takes a link's text apart from the front on; false, if it isn't of the form.
func apart(s string) (api.Link, bool) {
	var l api.Link
	var ok bool
	l.Scheme, s, ok = strings.Cut(s, "://")
	if !ok || !isScheme(l.Scheme) {
		return l, false
	}
	l.Host, s = front(s, inHost)
	if len(l.Host) < 1 || len(l.Host) > maxHost {
		return l, false
	}
	l.Port, s, ok = cutPort(s)
	if !ok || !isTail(s) {
		return l, false
	}
	// The fragment goes first: a ? in it begins no query.
	s, l.Fragment, l.HasFragment = strings.Cut(s, "#")
	l.Path, l.Query, l.HasQuery = strings.Cut(s, "?")
	return l, isPath(l.Path) && !strings.Contains(l.Fragment, "#")
}

func isScheme(s string) bool {
	switch small(s) {
	case "http", "https":
		return true
	}
	return false
}

// cutPort takes a colon and a port off the front, if there is a colon.
func cutPort(s string) (port int, rest string, ok bool) {
	behind, has := strings.CutPrefix(s, ":")
	if !has {
		return 0, s, true
	}
	digits, rest := front(behind, isDigit)
	if digits == "" || digits[0] == '0' {
		return 0, "", false
	}
	port, err := strconv.Atoi(digits)
	if err != nil || port > maxPort {
		return 0, "", false
	}
	return port, rest, true
}

func isPath(s string) bool {
	return s == "" || s[0] == '/'
}

// isTail looks at what stands behind the port.
func isTail(s string) bool {
	for i := range len(s) {
		if !inTail(s[i]) {
			return false
		}
		if s[i] == '%' && !isEscape(s[i:]) {
			return false
		}
	}
	return true
}

func inTail(c byte) bool {
	switch c {
	case '"', '<', '>', '\\', '^', '`', '{', '|', '}':
		return false
	}
	return c >= 0x21 && c <= 0x7E
}

// isEscape says whether a text begins with % and two hexadecimal digits.
func isEscape(s string) bool {
	return len(s) >= 3 && s[0] == '%' && isHex(s[1]) && isHex(s[2])
}

// isMail says whether a text is mailto: and an address.
func isMail(s string) bool {
	width := len(s) - len(mailto)
	if width < 1 || width > maxMail || small(s[:len(mailto)]) != mailto {
		return false
	}
	_, rest := front(s[len(mailto):], inMail)
	return rest == ""
}

// front takes off those bytes at the front that fits says yes to.
func front(s string, fits func(c byte) bool) (taken, rest string) {
	n := 0
	for n < len(s) && fits(s[n]) {
		n++
	}
	return s[:n], s[n:]
}

func inHost(c byte) bool {
	return isLetter(c) || isDigit(c) || c == '-' || c == '.'
}

func inMail(c byte) bool {
	switch c {
	case '@', '.', '_', '+', '-':
		return true
	}
	return isLetter(c) || isDigit(c)
}

func isLetter(c byte) bool {
	return c >= 'a' && c <= 'z' || c >= 'A' && c <= 'Z'
}

func isDigit(c byte) bool {
	return c >= '0' && c <= '9'
}

func isHex(c byte) bool {
	return isDigit(c) || c >= 'a' && c <= 'f' || c >= 'A' && c <= 'F'
}
