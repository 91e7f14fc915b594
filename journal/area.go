package journal

import (
	"strings"

	"tinderbox/api"
)

// Block 0 is the head; the areas are behind it.
const (
	headBlock = 0
	areas     = 2
)

func otherArea(area int) int {
	return areas - 1 - area
}

// areaBlocks is how many blocks each area has.
func (j *Journal) areaBlocks() int {
	return (j.disk.Size() - 1) / areas
}

// areaBytes is how many bytes each area has.
func (j *Journal) areaBytes() int {
	return j.areaBlocks() * api.BlockSize
}

// blockAt is the block in which a byte of an area lies.
func (j *Journal) blockAt(area, at int) int {
	return headBlock + 1 + area*j.areaBlocks() + at/api.BlockSize
}

// firstBytes are so many bytes of an area, from its first one on.
func (j *Journal) firstBytes(area, count int) (string, api.Errno) {
	var all strings.Builder
	for all.Len() < count {
		s, e := j.disk.Read(j.blockAt(area, all.Len()))
		if e != api.OK {
			return "", e
		}
		all.WriteString(s)
	}
	return all.String()[:count], api.OK
}

// writeBytes lays bytes down in an area, behind so many others, and lets them last.
func (j *Journal) writeBytes(area, behind int, s string) api.Errno {
	first := j.blockAt(area, behind)
	stands, e := j.disk.Read(first)
	if e != api.OK {
		return e
	}
	// A block is written whole, so what stands ahead of the bytes in the first one is written once more.
	s = padded(stands[:behind%api.BlockSize] + s)
	for at := 0; at < len(s); at += api.BlockSize {
		if e := j.disk.Write(first+at/api.BlockSize, s[at:at+api.BlockSize]); e != api.OK {
			return e
		}
	}
	return j.disk.Sync()
}
