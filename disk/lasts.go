package disk

import (
	"slices"

	"tinderbox/api"
)

// diskOf is a disk on which these blocks last.
func diskOf(blocks []block) *Disk {
	return &Disk{lasts: blocks, written: slices.Clone(blocks)}
}

// has: is there a block of that number?
func (d *Disk) has(n int) bool {
	return n >= 0 && n < len(d.written)
}

// act counts one, and tells whether the disk dies in it.
func (d *Disk) act() api.Errno {
	d.acts++
	if d.armed == 0 {
		return api.OK
	}
	d.armed--
	if d.armed > 0 {
		return api.OK
	}
	d.dead = true
	return api.ErrDead
}

// keep lets blocks last as they were written.
func (d *Disk) keep(blocks []int) {
	for _, n := range blocks {
		d.lasts[n] = d.written[n]
	}
}

// lose lets blocks be written as they last.
func (d *Disk) lose(blocks []int) {
	for _, n := range blocks {
		d.written[n] = d.lasts[n]
	}
}

// taken is a list out of which a number was taken; false, if it was not there. It uses the list up.
func taken(list []int, n int) ([]int, bool) {
	at := slices.Index(list, n)
	if at < 0 {
		return list, false
	}
	return slices.Delete(list, at, at+1), true
}

// without is what is left of a list when each of some numbers was taken out of it; false, if one was not there any more.
func without(list, some []int) ([]int, bool) {
	left, ok := slices.Clone(list), true
	for _, n := range some {
		if left, ok = taken(left, n); !ok {
			return nil, false
		}
	}
	return left, true
}
