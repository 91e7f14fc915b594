package value

import (
	"strings"

	"tinderbox/api"
	"tinderbox/glyph"
)

// bounds are those of a value's Int; of a kind that has none, 0 alone.
func bounds(kind int) (least, most int) {
	switch kind {
	case api.Bool:
		return 0, 1
	case api.Int:
		return -api.MaxInt, api.MaxInt
	case api.Size:
		return 0, api.MaxSize
	case api.Span:
		return 0, api.MaxSpan
	}
	return 0, 0
}

// isText: are all bytes of a text those that a value's may have? (What is no rune is one above them all.)
func isText(s string) bool {
	for _, r := range s {
		if r < 32 || r > 126 {
			return false
		}
	}
	return true
}

// areRight: may a value have these words?
func areRight(words []string) bool {
	if len(words) > api.MaxWords {
		return false
	}
	for _, word := range words {
		if !glyph.IsWord(word) {
			return false
		}
	}
	return len(strings.Join(words, between)) <= api.MaxText
}
