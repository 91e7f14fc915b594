package value

import (
	"strconv"
	"strings"

	"tinderbox/api"
)

// printed is the text of a right value.
func printed(v api.Value) string {
	switch v.Kind {
	case api.Bool:
		return strconv.FormatBool(v.Int == 1)
	case api.Int:
		return strconv.Itoa(v.Int)
	case api.Size, api.Span:
		u := unitOf(v.Kind, v.Int)
		return strconv.Itoa(v.Int/u.stands) + u.name
	case api.Text:
		return v.Text
	}
	return strings.Join(v.Words, between)
}
