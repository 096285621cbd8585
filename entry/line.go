package entry

import (
	"strconv"

	"broadsheet/api"
	"broadsheet/json"
)

// Put an entry into a line.
func Put(e api.Entry) string {
	// Where a part is no text there is no line, and Print answers none.
	line, _ := json.Print(api.Json{Kind: api.JsonList, List: []api.Json{
		{Kind: api.JsonText, Text: e.Link},
		{Kind: api.JsonText, Text: e.Title},
		{Kind: api.JsonText, Text: e.Body},
		{Kind: api.JsonNumber, Text: strconv.Itoa(e.When)},
	}})
	return line
}

// Get an entry out of a line. ErrForm.
func Get(s string) (api.Entry, api.Errno) {
	e, ok := taken(s)
	// An entry has one line, so all other spellings are told by holding that
	// line against s.
	if !ok || !Normal(e) || Put(e) != s {
		return api.Entry{}, api.ErrForm
	}
	return e, api.OK
}

// taken is an entry of what stands in a line, whatever that is; false, if it
// isn't four values.
func taken(s string) (api.Entry, bool) {
	v, e := json.Parse([]byte(s))
	if e != api.OK || len(v.List) != 4 {
		return api.Entry{}, false
	}
	when, err := strconv.Atoi(v.List[3].Text)
	if err != nil {
		return api.Entry{}, false
	}
	return api.Entry{Link: v.List[0].Text, Title: v.List[1].Text, Body: v.List[2].Text, When: when}, true
}
