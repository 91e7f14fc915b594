package disk_test

import (
	"math"
	"slices"
	"strings"
	"testing"

	"tinderbox/api"
	"tinderbox/disk"
)

// K1: New

func wantNoDisk(t *testing.T, d *disk.Disk, e api.Errno) {
	t.Helper()
	if d != nil || e != api.ErrArg {
		t.Errorf("%v, %d; not nil, %d", d != nil, e, api.ErrArg)
	}
}

func TestNewOfTooFewAndTooMany(t *testing.T) {
	for _, blocks := range []int{7, 4097, 6, 1, 0, -1, -7, -8, -4096, 4098, 5000, 1 << 31, 1<<32 + 8, math.MaxInt, math.MinInt, math.MinInt + 8} {
		d, e := disk.New(blocks)
		wantNoDisk(t, d, e)
	}
}

func TestNewOfEverySizeNearTheEnds(t *testing.T) {
	for blocks := 8; blocks <= 100; blocks++ {
		d, m := fresh(t, blocks)
		m.check(t, d)
	}
	for _, blocks := range []int{1000, 4094, 4095, 4096} {
		d, m := fresh(t, blocks)
		m.check(t, d)
	}
}

// All sizes up to the greatest one and beyond.
func TestNewOfEverySize(t *testing.T) {
	for blocks := -100; blocks < 4200; blocks++ {
		d, e := disk.New(blocks)
		if blocks < 8 || blocks > 4096 {
			wantNoDisk(t, d, e)
			continue
		}
		if e != api.OK || d.Size() != blocks {
			t.Fatalf("New of %d: %d", blocks, e)
		}
		if s, e := d.Read(blocks - 1); e != api.OK || s != full("\x00") {
			t.Errorf("Read of the last of %d: %.3q, %d", blocks, s, e)
		}
		if _, e := d.Read(blocks); e != api.ErrArg {
			t.Errorf("Read of the one beyond %d: %d", blocks, e)
		}
	}
}

// The noughts of a new disk last; nothing is pending, it is not armed.
func TestNoughtsOfANewDiskLast(t *testing.T) {
	for _, blocks := range []int{8, 9, 4096} {
		d, m := fresh(t, blocks)
		wantErrno(t, api.ErrArg, m.wantCrash(t, d, 0))
		m.wantCrash(t, d)
		m.check(t, d)
		for n := range min(blocks, 20) {
			wantErrno(t, api.OK, m.wantWrite(t, d, n, striped(n)), m.wantWrite(t, d, blocks-1-n, striped(n+9)))
		}
		m.check(t, d)
		m.wantCrash(t, d)
		m.check(t, d)
		wantReads(t, d, strings.Repeat("0", blocks))
	}
}

// K1: Load

func TestLoadOfTooFewAndTooMany(t *testing.T) {
	for _, count := range []int{0, 1, 7, 4097, 4098, 10000} {
		d, e := disk.Load(slices.Repeat([]string{full("x")}, count))
		wantNoDisk(t, d, e)
	}
	for _, image := range [][]string{nil, {}, make([]string, 3, 8), stripes(9)[:7], {strings.Repeat(full("x"), 8)}} {
		d, e := disk.Load(image)
		wantNoDisk(t, d, e)
	}
}

func TestLoadOfEverySizeNearTheEnds(t *testing.T) {
	for count := 8; count <= 100; count++ {
		d, m := loaded(t, stripes(count))
		m.check(t, d)
	}
	for _, count := range []int{1000, 4094, 4095, 4096} {
		d, m := loaded(t, stripes(count))
		m.check(t, d)
	}
}

// Texts of other lengths, in every place.
func TestLoadOfTextsThatAreNoBlocks(t *testing.T) {
	for _, count := range []int{8, 9, 20} {
		for n := range count {
			for length := range 200 {
				image := stripes(count)
				image[n] = strings.Repeat("l", length)
				d, e := disk.Load(image)
				if length != 64 {
					wantNoDisk(t, d, e)
				} else if e != api.OK || !slices.Equal(d.Image(), image) {
					t.Errorf("Load of %d: %d", count, e)
				}
			}
		}
	}
	for _, n := range []int{0, 1, 2000, 4094, 4095} {
		for _, s := range []string{"", full("x")[1:], full("x") + "x", full("x") + full("x")} {
			image := stripes(4096)
			image[n] = s
			d, e := disk.Load(image)
			wantNoDisk(t, d, e)
		}
	}
}

// As many bytes in all as there should be are not enough, nor as many letters.
func TestLoadOfTextsThatAreBlocksInAllAlone(t *testing.T) {
	image := stripes(10)
	image[3], image[4] = image[3]+image[4][:1], image[4][1:]
	d, e := disk.Load(image)
	wantNoDisk(t, d, e)
	d, e = disk.Load(slices.Repeat([]string{strings.Repeat("ä", 64)}, 8))
	wantNoDisk(t, d, e)
	pairs, m := loaded(t, slices.Repeat([]string{strings.Repeat("ä", 32)}, 8))
	m.check(t, pairs)
}

// Blocks have any bytes, each in its place.
func TestLoadOfAllBytes(t *testing.T) {
	for first := range 256 {
		image := slices.Repeat([]string{striped(first), full(string([]byte{byte(first)}))}, 4)
		d, m := loaded(t, image)
		if first%16 == 0 {
			m.check(t, d)
		}
		if !slices.Equal(d.Image(), image) {
			t.Errorf("%q", d.Image())
		}
	}
}

// What is loaded lasts; nothing is pending, it is not armed.
func TestWhatIsLoadedLasts(t *testing.T) {
	for _, count := range []int{8, 9, 4096} {
		image := stripes(count)
		d, m := loaded(t, image)
		wantErrno(t, api.ErrArg, m.wantCrash(t, d, 0))
		m.wantCrash(t, d)
		m.check(t, d)
		for n := range min(count, 20) {
			wantErrno(t, api.OK, m.wantWrite(t, d, n, full("w")), m.wantWrite(t, d, count-1-n, full("v")))
		}
		m.check(t, d)
		m.wantCrash(t, d)
		m.check(t, d)
		if !slices.Equal(d.Image(), image) {
			t.Errorf("what was loaded was lost")
		}
	}
}
