package journal_test

import (
	"slices"
	"strings"
	"testing"

	"tinderbox/api"
	"tinderbox/disk"
	"tinderbox/journal"
)

// J2

func TestOpenOfNil(t *testing.T) {
	if j, e := journal.Open(nil); j != nil || e != api.ErrArg {
		t.Errorf("%v, %d", j != nil, e)
	}
}

func TestOpenOfADeadDisk(t *testing.T) {
	for _, image := range lying() {
		l := born(t, image)
		l.kill(t)
		for range 3 {
			wantErrno(t, api.ErrDead, l.open(t))
			l.check(t)
		}
		if l.disk.Acts() != 1 {
			t.Errorf("%d acts", l.disk.Acts())
		}
		l.crash(t)
		l.open(t)
		l.check(t)
	}
}

func TestOpenOfNoJournal(t *testing.T) {
	for blocks := 8; blocks < 20; blocks++ {
		for _, image := range [][]string{noughts(blocks), stripes(blocks), slices.Repeat([]string{strings.Repeat("TJ01", 16)}, blocks)} {
			wantErrno(t, api.ErrJournalImage, born(t, image).open(t))
		}
	}
}

// wantOpen opens what lies on an image, and looks whether it is as it should be, with such records; nil, if it may not be.
func wantOpen(t *testing.T, image []string, want []string) {
	t.Helper()
	l := born(t, image)
	if e := l.open(t); e != api.OK || want == nil {
		if want != nil || e != api.ErrJournalImage {
			t.Errorf("Open of the head %q: %d; it should have %.9q", image[0][:18], e, want)
		}
		l.check(t)
		return
	}
	l.check(t)
	wantRecords(t, l.journal, want...)
	if l.disk.Acts() != 0 {
		t.Errorf("%d acts", l.disk.Acts())
	}
}

// withHead is an image with another head.
func withHead(image []string, head string) []string {
	other := slices.Clone(image)
	other[0] = head
	return other
}

// Each byte of a head, and each other byte in its place: just those of the generation, of the area and of the used bytes may be others.
func TestOpenOfEachByteOfAHead(t *testing.T) {
	image := imageOf(8, 1, 0, "", "ab")
	lay(image, 4, bytesOf("z", "yx", "w"))
	for at := range 64 {
		for b := range 256 {
			head := []byte(image[0])
			head[at] = byte(b)
			want := []string{"", "ab"}
			switch {
			case at == 4 && b >= 64:
				// A generation above 2^62: the rest of it is 1.
				want = nil
			case at >= 4 && at < 12:
			case at == 12 && b == 1:
				// Of the other area's bytes six end within a record.
				want = nil
			case at == 16 && b == 2:
				want = []string{""}
			case at == 16 && b == 0:
				want = []string{}
			case image[0][at] != byte(b):
				want = nil
			}
			wantOpen(t, withHead(image, string(head)), want)
		}
	}
}

func TestOpenOfGenerations(t *testing.T) {
	image := imageOf(8, 0, 0, "a")
	for _, gen := range []uint64{0, 1, 2, 255, 256, 1<<31 + 7, 1 << 32, 1<<53 + 1, 1<<62 - 1, 1 << 62} {
		l := born(t, withHead(image, headOf(gen, 0, 3)))
		wantErrno(t, api.OK, l.open(t))
		l.check(t)
		if l.journal.Gen() != int(gen) {
			t.Errorf("Gen: %d, not %d", l.journal.Gen(), gen)
		}
	}
	for _, gen := range []uint64{1<<62 + 1, 1<<62 + 1<<61, 1<<63 - 1, 1 << 63, 1<<63 + 1, 1<<63 + 1<<62, 1<<64 - 1} {
		wantOpen(t, withHead(image, headOf(gen, 0, 3)), nil)
	}
}

func TestOpenOfAreas(t *testing.T) {
	image := imageOf(8, 5, 0, "ab")
	lay(image, 4, bytesOf("cd"))
	for area := range 256 {
		var want []string
		switch area {
		case 0:
			want = []string{"ab"}
		case 1:
			want = []string{"cd"}
		}
		wantOpen(t, withHead(image, headOf(5, byte(area), 4)), want)
	}
	wantOpen(t, withHead(image, headOf(5, 0, 0)), []string{})
	wantOpen(t, withHead(image, headOf(5, 1, 0)), []string{})
	wantOpen(t, withHead(image, headOf(5, 2, 0)), nil)
}

// All numbers of used bytes, up to beyond what an area has: just those at which a record ends may be.
func TestOpenOfUsedBytes(t *testing.T) {
	for blocks := 8; blocks <= 11; blocks++ {
		bytes := (blocks - 1) / 2 * 64
		for area := range 2 {
			records := []string{"", "a", long(70), "", "", long(30)}
			records = append(records, long(bytes-len(bytesOf(records...))-2))
			image := imageOf(blocks, 9, area, records...)
			for used := range 1000 {
				var want []string
				for count := range len(records) + 1 {
					if len(bytesOf(records[:count]...)) == used {
						want = slices.Clone(records[:count:count])
					}
				}
				if used == 0 {
					want = []string{}
				}
				wantOpen(t, withHead(image, headOf(9, byte(area), uint32(used))), want)
			}
		}
	}
}

// As many as an area has, and more; greater numbers, whose lowest bytes might do.
func TestOpenOfTooManyUsedBytes(t *testing.T) {
	for _, blocks := range []int{8, 9, 10, 63, 64, 65, 66, 4095, 4096} {
		for area := range byte(2) {
			bytes := uint32((blocks - 1) / 2 * 64)
			wantOpen(t, withHead(noughts(blocks), headOf(1, area, bytes)), make([]string, bytes/2))
			for _, used := range []uint32{bytes + 1, bytes + 2, bytes + 64, bytes + 128, 1<<31 - 2, 1 << 31, 1<<31 + 2, 1<<32 - 1, 1<<32 - 2, 1<<24 + 2, 1<<17 + 2} {
				wantOpen(t, withHead(noughts(blocks), headOf(1, area, used)), nil)
			}
		}
	}
}

// A record has at most 60000 bytes, wherever it stands.
func TestOpenOfLongRecords(t *testing.T) {
	for area := range 2 {
		for _, ahead := range [][]string{nil, {"a"}, {"", long(59)}, {long(60000)}} {
			for _, length := range []int{59998, 59999, 60000, 60001, 60002, 65534, 65535} {
				records := append(slices.Clone(ahead), long(length))
				want := records
				if length > 60000 {
					want = nil
				}
				wantOpen(t, imageOf(4096, 3, area, records...), want)
			}
		}
	}
}

// What stands behind the used bytes, in the other area, and in a last block that belongs to none, does not matter.
func TestOpenOfWhatDoesNotMatter(t *testing.T) {
	for blocks := 8; blocks <= 13; blocks++ {
		for area := range 2 {
			for _, records := range [][]string{{}, {""}, {"ab"}, {long(62)}, {long(61), ""}, {long(63)}, {long(100), "x", "", long(9)}} {
				image := imageOf(blocks, 4, area, records...)
				wantOpen(t, image, records)
				first := 1 + area*((blocks-1)/2)
				for n := 1; n < blocks; n++ {
					// The used bytes are left as they are.
					from := min(max(0, len(bytesOf(records...))-(n-first)*64), 64)
					if n < first {
						from = 0
					}
					for _, b := range []string{"\x00", "\xff", "T"} {
						other := slices.Clone(image)
						other[n] = other[n][:from] + strings.Repeat(b, 64-from)
						wantOpen(t, other, records)
					}
				}
			}
		}
	}
}

// Where the areas begin: on disks of even and of odd numbers of blocks.
func TestOpenOfBothAreas(t *testing.T) {
	for blocks := 8; blocks <= 70; blocks++ {
		area := (blocks - 1) / 2
		image := stripes(blocks)
		image[1] = "\x00\x05first" + image[1][7:]
		image[1+area] = "\x00\x06second" + image[1+area][8:]
		wantOpen(t, withHead(image, headOf(2, 0, 7)), []string{"first"})
		wantOpen(t, withHead(image, headOf(2, 1, 8)), []string{"second"})
	}
}

// Blocks are read as they were written last, be they pending or not.
func TestOpenOfWhatIsPending(t *testing.T) {
	image := imageOf(8, 6, 1, "one", long(70))
	l := born(t, noughts(8))
	for _, n := range []int{4, 0, 5} {
		l.write(t, n, image[n])
	}
	wantErrno(t, api.OK, l.open(t))
	l.check(t)
	wantRecords(t, l.journal, "one", long(70))
	if !slices.Equal(l.disk.Pending(), []int{4, 0, 5}) {
		t.Errorf("%v is pending", l.disk.Pending())
	}
	l.crash(t, 0, 4, 5)
	l.check(t)
	wantErrno(t, api.OK, l.append(t, "two"))
	l.check(t)
	l.write(t, 0, image[0])
	l.crash(t)
	wantErrno(t, api.OK, l.open(t))
	wantRecords(t, l.journal, "one", long(70), "two")
}

// Open does no act: also of a disk that would die in its next one.
func TestOpenDoesNoAct(t *testing.T) {
	for _, image := range lying() {
		l := born(t, image)
		l.arm(t, 1)
		l.open(t)
		l.open(t)
		l.check(t)
		if l.disk.Acts() != 0 || l.disk.Dead() {
			t.Errorf("%d acts", l.disk.Acts())
		}
	}
}

// Who opens again and again finds the same; and other things may be told of a disk that is another one's copy.
func TestOpenAgain(t *testing.T) {
	l := opened(t, 9, 3, 1, "a", "", long(90))
	for range 5 {
		copied, e := disk.Load(l.disk.Image())
		wantErrno(t, api.OK, e, l.open(t), l.append(t, "b"))
		l.check(t)
		j, e := journal.Open(copied)
		wantErrno(t, api.OK, e)
		wantRecords(t, j, l.records[:len(l.records)-1]...)
	}
}
