package glyph

// from96 has the classes of the bytes 96 to 127.
var from96 = [32]uint8{
	sign, small, small, small, small, small, small, small,
	small, small, small, small, small, small, small, small,
	small, small, small, small, small, small, small, small,
	small, small, small, sign, sign, sign, sign, other,
}
