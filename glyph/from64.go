package glyph

// from64 has the classes of the bytes 64 to 95.
var from64 = [32]uint8{
	sign, great, great, great, great, great, great, great,
	great, great, great, great, great, great, great, great,
	great, great, great, great, great, great, great, great,
	great, great, great, sign, sign, sign, sign, sign,
}
