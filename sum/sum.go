// Package sum is layer 1: see shared/doc/01-sum.md.
package sum

const (
	poly    = 0xedb88320
	ones    = 1<<32 - 1
	modulus = 65521
)

// Table is the word of the byte that the lowest 8 bits of n say.
func Table(n int) uint32 {
	table := words()
	return table[n&255]
}

// CRC is the CRC-32 of bytes.
func CRC(s string) uint32 {
	table := words()
	x := uint32(ones)
	for i := 0; i < len(s); i++ {
		x = x>>8 ^ table[byte(x)^s[i]]
	}
	return x ^ ones
}

// Adler is the Adler-32 of bytes.
func Adler(s string) uint32 {
	a, b := uint32(1), uint32(0)
	for i := 0; i < len(s); i++ {
		// The remainder is taken at each byte, so no length of text can overflow b.
		a = (a + uint32(s[i])) % modulus
		b = (b + a) % modulus
	}
	return b<<16 | a
}

// words makes the table anew for each caller: nothing that a caller holds can change what another one sees.
func words() [256]uint32 {
	var table [256]uint32
	for b := range table {
		table[b] = word(uint32(b))
	}
	return table
}

func word(x uint32) uint32 {
	for range 8 {
		if x&1 == 1 {
			x = x>>1 ^ poly
		} else {
			x >>= 1
		}
	}
	return x
}
