package json

import "strings"

const digits = "0123456789"

func isNumber(s string) bool {
	rest, ok := behindNumber(s)
	return ok && rest == ""
}

// behindNumber is what stands behind the number at the front; false, if there
// is none. A full stop or an e without digits makes all of it none.
func behindNumber(s string) (rest string, ok bool) {
	rest, ok = behindWhole(strings.TrimPrefix(s, "-"))
	if !ok {
		return "", false
	}
	if fraction, has := strings.CutPrefix(rest, "."); has {
		rest, ok = behindDigits(fraction)
		if !ok {
			return "", false
		}
	}
	if startsWith(rest, "eE") {
		power := rest[1:]
		if startsWith(power, "+-") {
			power = power[1:]
		}
		return behindDigits(power)
	}
	return rest, true
}

// behindWhole is behindNumber of digits alone. A 0 is a number by itself: digits
// behind it aren't of it.
func behindWhole(s string) (rest string, ok bool) {
	if rest, ok = strings.CutPrefix(s, "0"); ok {
		return rest, true
	}
	return behindDigits(s)
}

// behindDigits wants one of them at least.
func behindDigits(s string) (rest string, ok bool) {
	if !startsWith(s, digits) {
		return "", false
	}
	return strings.TrimLeft(s, digits), true
}

// startsWith one of some bytes?
func startsWith(s, some string) bool {
	return s != "" && strings.IndexByte(some, s[0]) >= 0
}

// quotedWidth is how many bytes at the front are in quotes, the quotes with
// them; 0, if they are none or don't end.
func quotedWidth(s string) int {
	if !startsWith(s, `"`) {
		return 0
	}
	for i := 1; i < len(s); i++ {
		switch s[i] {
		case '"':
			return i + 1
		case '\\':
			i++ // what stands behind it, also a quote, ends nothing
		}
	}
	return 0
}
