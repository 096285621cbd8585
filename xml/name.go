package xml

// nameWidth is how many bytes at the front are a name; 0, if none is.
func nameWidth(s string) int {
	if s == "" || !beginsName(s[0]) {
		return 0
	}
	for i := range len(s) {
		if !goesOnName(s[i]) {
			return i
		}
	}
	return len(s)
}

func isName(s string) bool {
	return s != "" && nameWidth(s) == len(s)
}

// beginsName looks at bytes: all those of code points beyond ASCII may stand in
// a name.
func beginsName(c byte) bool {
	return c >= 'a' && c <= 'z' || c >= 'A' && c <= 'Z' || c == '_' || c >= 0x80
}

func goesOnName(c byte) bool {
	return beginsName(c) || c >= '0' && c <= '9' || c == '-' || c == '.'
}

// qualified name as it is written.
type qualified struct {
	prefix string // "": none
	local  string
}

func (q qualified) written() string {
	if q.prefix == "" {
		return q.local
	}
	return q.prefix + ":" + q.local
}

// declares answers the prefix of which an attribute of that name says what it
// stands for; false, if it is an attribute like others.
func (q qualified) declares() (prefix string, ok bool) {
	switch {
	case q.prefix == "xmlns":
		return q.local, true
	case q.prefix == "" && q.local == "xmlns":
		return "", true
	}
	return "", false
}
