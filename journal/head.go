package journal

import (
	"strings"

	"tinderbox/api"
)

// The parts of a head, one behind the other: letters, and numbers by so many bytes. All that is behind them is noughts.
const (
	headLetters = "TJ01"
	genBytes    = 8
	areaByte    = 1
	usedBytes   = 4
)

// head is what block 0 says: the generation, the area, and how many of its bytes are used.
type head struct {
	gen, area, used int
}

// text is the block in which it stands.
func (h head) text() string {
	return padded(headLetters + numberBy(genBytes, h.gen) + numberBy(areaByte, h.area) + numberBy(usedBytes, h.used))
}

// headOf is the head that stands in a block; false, if it may not be, whatever disk it is on.
func headOf(s string) (head, bool) {
	rest := s[len(headLetters):]
	h := head{gen: numberOf(rest[:genBytes])}
	rest = rest[genBytes:]
	h.area = numberOf(rest[:areaByte])
	h.used = numberOf(rest[areaByte : areaByte+usedBytes])
	// A generation of eight great bytes comes out below 0.
	right := h.gen >= 0 && h.gen <= api.MaxGen && h.area < areas
	// There is one block for each head: letters and noughts that are others make another one.
	return h, right && h.text() == s
}

// numberBy is a number by so many bytes, the highest one first.
func numberBy(count, n int) string {
	b := make([]byte, count)
	for at := range b {
		b[count-1-at] = byte(n >> (8 * at))
	}
	return string(b)
}

// numberOf is the number that bytes say.
func numberOf(s string) int {
	n := 0
	for at := range len(s) {
		n = n<<8 | int(s[at])
	}
	return n
}

// padded are bytes with noughts behind them, up to the end of a block.
func padded(s string) string {
	if over := len(s) % api.BlockSize; over > 0 {
		return s + strings.Repeat("\x00", api.BlockSize-over)
	}
	return s
}
