package disk

import "tinderbox/api"

// block is an array: what lasts and what was written do not share what they have.
type block [api.BlockSize]byte

// blockOf is a block of such bytes; false, if these are not as many as a block has.
func blockOf(s string) (block, bool) {
	if len(s) != api.BlockSize {
		return block{}, false
	}
	return block([]byte(s)), true
}

// text is its bytes.
func (b block) text() string {
	return string(b[:])
}

// manyMayBe: may a disk have so many blocks?
func manyMayBe(blocks int) bool {
	return blocks >= api.MinBlocks && blocks <= api.MaxBlocks
}
