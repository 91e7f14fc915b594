package key

import (
	"tinderbox/api"
	"tinderbox/glyph"
	"tinderbox/value"
)

// helpLetter is no definition's: it asks for help.
const helpLetter = "h"

// hasForm: has a definition its form?
func hasForm(k api.Key) bool {
	return glyph.IsName(k.Name) && letterMayBe(k.Letter) && boundsMayBe(k)
}

func letterMayBe(letter string) bool {
	if letter == "" {
		return true
	}
	return len(letter) == 1 && glyph.Class(int(letter[0])) == api.GlyphSmall && letter != helpLetter
}

// boundsMayBe: is a definition's kind one, and may Least and Most be its bounds?
func boundsMayBe(k api.Key) bool {
	switch k.Kind {
	case api.Bool, api.Text:
		return k.Least == 0 && k.Most == 0
	case api.Int, api.Size, api.Span:
		return k.Least <= k.Most && isNumber(k.Kind, k.Least) && isNumber(k.Kind, k.Most)
	case api.Words:
		return 0 <= k.Least && k.Least <= k.Most && k.Most <= api.MaxWords
	}
	return false
}

// isNumber: is n one of the numbers of a kind?
func isNumber(kind, n int) bool {
	return value.Right(api.Value{Kind: kind, Int: n})
}

// defaultMayBe: is a definition's default read by its kind, and does it lie within its bounds?
func defaultMayBe(k api.Key) bool {
	v, e := value.Parse(k.Kind, k.Default)
	return e == api.OK && value.Within(v, k.Least, k.Most)
}
