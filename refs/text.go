package refs

import (
	"strings"

	"tinderbox/api"
	"tinderbox/glyph"
)

// cut cuts a text behind what its first dollar sign begins: what stands for itself up to there; the name, if that was a reference; what is left. False, if the sign begins nothing that it may.
func cut(s string) (plain, name, rest string, ok bool) {
	plain, rest, found := strings.Cut(s, "$")
	if !found {
		return s, "", "", true
	}
	if rest, doubled := strings.CutPrefix(rest, "$"); doubled {
		// The first one of the two is the one that both stand for.
		return s[:len(plain)+1], "", rest, true
	}
	rest, opened := strings.CutPrefix(rest, "{")
	name, rest, closed := strings.Cut(rest, "}")
	return plain, name, rest, opened && closed && glyph.IsName(name)
}

// expanded is the expansion of a well formed text, if those of all that it speaks of are known.
func expanded(s string, known map[string]expansion) expansion {
	var b strings.Builder
	for s != "" {
		plain, name, rest, _ := cut(s)
		// Where there is no reference the name is empty: nothing is known of that, and nothing put in.
		one := known[name]
		b.WriteString(plain)
		b.WriteString(one.text)
		if one.long || b.Len() > api.MaxText {
			return expansion{long: true}
		}
		s = rest
	}
	return expansion{text: b.String()}
}
