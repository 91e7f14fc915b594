package glyph

// from0 has the classes of the bytes 0 to 31.
var from0 = [32]uint8{
	other, other, other, other, other, other, other, other,
	other, blank, signal, other, other, signal, other, other,
	other, other, other, other, other, other, other, other,
	other, other, other, other, other, other, other, other,
}
