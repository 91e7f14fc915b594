package glyph

import "tinderbox/api"

// Short words for the tables.
const (
	other  = api.GlyphOther
	small  = api.GlyphSmall
	great  = api.GlyphGreat
	digit  = api.GlyphDigit
	blank  = api.GlyphBlank
	sign   = api.GlyphSign
	signal = api.GlyphSignal
)
