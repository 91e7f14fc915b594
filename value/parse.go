package value

import (
	"strings"

	"tinderbox/api"
	"tinderbox/glyph"
)

// between stands between words.
const between = ","

func parseBool(s string) (api.Value, api.Errno) {
	switch s {
	case "true", "yes", "on":
		return api.Value{Kind: api.Bool, Int: 1}, api.OK
	case "false", "no", "off":
		return api.Value{Kind: api.Bool}, api.OK
	}
	return api.Value{}, api.ErrValueForm
}

func parseInt(s string) (api.Value, api.Errno) {
	unsigned, negative := strings.CutPrefix(s, "-")
	n, behind, ok := number(unsigned)
	switch {
	case !ok || behind != "" || negative && n == 0:
		return api.Value{}, api.ErrValueForm
	case n > api.MaxInt:
		return api.Value{}, api.ErrValueRange
	case negative:
		n = -n
	}
	return api.Value{Kind: api.Int, Int: n}, api.OK
}

// parseMeasure reads a value of a kind that has units.
func parseMeasure(kind int, s string) (api.Value, api.Errno) {
	n, name, ok := number(s)
	stands := Unit(kind, name)
	if kind == api.Span && s == "0" {
		// The one span without a unit: it is as long in each of them.
		stands = 1
	}
	_, most := bounds(kind)
	switch {
	case !ok || stands == 0:
		return api.Value{}, api.ErrValueForm
	case n > most/stands:
		return api.Value{}, api.ErrValueRange
	}
	return api.Value{Kind: kind, Int: n * stands}, api.OK
}

func parseText(s string) (api.Value, api.Errno) {
	switch {
	case !isText(s):
		return api.Value{}, api.ErrValueForm
	case len(s) > api.MaxText:
		return api.Value{}, api.ErrValueLong
	}
	// A copy: a value made of a piece of a file would keep the whole file.
	return api.Value{Kind: api.Text, Text: strings.Clone(s)}, api.OK
}

func parseWords(s string) (api.Value, api.Errno) {
	switch {
	case s == "":
		return api.Value{Kind: api.Words}, api.OK
	case !isList(s):
		return api.Value{}, api.ErrValueForm
	case len(s) > api.MaxText || strings.Count(s, between) >= api.MaxWords:
		return api.Value{}, api.ErrValueLong
	}
	// A copy, as of a Text.
	return api.Value{Kind: api.Words, Words: strings.Split(strings.Clone(s), between)}, api.OK
}

// isList: is all that stands between the commas of a text a word?
func isList(s string) bool {
	begin := 0
	for i, r := range s {
		if r != ',' {
			continue
		}
		if !glyph.IsWord(s[begin:i]) {
			return false
		}
		begin = i + 1
	}
	return glyph.IsWord(s[begin:])
}
