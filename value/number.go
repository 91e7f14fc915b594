package value

import (
	"tinderbox/api"
	"tinderbox/glyph"
)

// beyond is told of every number above MaxInt: it is out of all bounds, and an int holds it.
const beyond = api.MaxInt + 1

// number is what the number at the beginning of a text says, and what stands behind it; false, if none begins there.
func number(s string) (int, string, bool) {
	length := digits(s)
	if length == 0 || length > 1 && s[0] == '0' {
		return 0, "", false
	}
	return said(s[:length]), s[length:], true
}

// digits is how many digits a text begins with.
func digits(s string) int {
	for i, r := range s {
		if glyph.Class(int(r)) != api.GlyphDigit {
			return i
		}
	}
	return len(s)
}

// said is what digits say, or beyond.
func said(s string) int {
	n := 0
	for _, r := range s {
		digit := int(r - '0')
		if n > (api.MaxInt-digit)/10 {
			return beyond
		}
		n = n*10 + digit
	}
	return n
}
