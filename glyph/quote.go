package glyph

import (
	"strings"

	"tinderbox/api"
)

const (
	quote  = '"'
	escape = '\\'
	digits = "0123456789abcdef"
)

// Quote is a text between quotes.
func Quote(s string) string {
	quoted := make([]byte, 0, len(s)+2)
	quoted = append(quoted, quote)
	for i := 0; i < len(s); i++ {
		b := s[i]
		switch {
		case b == quote || b == escape:
			quoted = append(quoted, escape, b)
		case isPrinted(b):
			quoted = append(quoted, b)
		default:
			quoted = append(quoted, escape, 'x', digits[b>>4], digits[b&15])
		}
	}
	return string(append(quoted, quote))
}

// Unquote reads it.
func Unquote(s string) (string, api.Errno) {
	if len(s) < 2 || s[0] != quote || s[len(s)-1] != quote {
		return "", api.ErrGlyphForm
	}
	rest := s[1 : len(s)-1]
	text := make([]byte, 0, len(rest))
	for len(rest) > 0 {
		b, length := next(rest)
		if length == 0 {
			return "", api.ErrGlyphForm
		}
		text = append(text, b)
		rest = rest[length:]
	}
	return string(text), api.OK
}

// next is the byte that the beginning of s says, and how many bytes of s say it: none, if Quote writes no byte so.
func next(s string) (byte, int) {
	b := s[0]
	switch {
	case b == escape:
		return escaped(s)
	case b == quote || !isPrinted(b):
		return 0, 0
	}
	return b, 1
}

func escaped(s string) (byte, int) {
	switch {
	case len(s) >= 2 && (s[1] == quote || s[1] == escape):
		return s[1], 2
	case len(s) >= 4 && s[1] == 'x':
		return numbered(s[2], s[3])
	}
	return 0, 0
}

func numbered(high, low byte) (byte, int) {
	h, l := strings.IndexByte(digits, high), strings.IndexByte(digits, low)
	if h < 0 || l < 0 {
		return 0, 0
	}
	b := byte(h<<4 | l)
	if isPrinted(b) {
		// Two ways to write a byte would let two quoted texts say the same.
		return 0, 0
	}
	return b, 4
}

func isPrinted(b byte) bool {
	return b >= 32 && b <= 126
}
