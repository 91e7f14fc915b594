package glyph

// from32 has the classes of the bytes 32 to 63.
var from32 = [32]uint8{
	blank, sign, sign, sign, sign, sign, sign, sign,
	sign, sign, sign, sign, sign, sign, sign, sign,
	digit, digit, digit, digit, digit, digit, digit, digit,
	digit, digit, sign, sign, sign, sign, sign, sign,
}
