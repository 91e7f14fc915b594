package journal_test

import (
	"slices"
	"strings"
	"testing"

	"tinderbox/api"
	"tinderbox/disk"
	"tinderbox/journal"
)

// J1

func TestFormatOfNil(t *testing.T) {
	if j, e := journal.Format(nil); j != nil || e != api.ErrArg {
		t.Errorf("%v, %d", j != nil, e)
	}
}

func TestFormatOfADeadDisk(t *testing.T) {
	for _, image := range lying() {
		l := born(t, image)
		l.write(t, 3, image[1])
		l.kill(t)
		for range 3 {
			wantErrno(t, api.ErrDead, l.format(t))
			l.check(t)
		}
		if l.disk.Acts() != 2 {
			t.Errorf("%d acts", l.disk.Acts())
		}
		l.crash(t)
		wantErrno(t, api.OK, l.format(t))
		l.check(t)
	}
}

// lying are images of what may lie on a disk that is laid anew.
func lying() [][]string {
	other := stripes(9)
	other[0] = headOf(3, 1, 600)
	return [][]string{
		noughts(8), stripes(8), stripes(9), slices.Repeat([]string{strings.Repeat("\xff", 64)}, 8), other,
		imageOf(8, 0, 0), imageOf(8, 7, 0, "ab", long(187)[:180]), imageOf(9, 1<<62, 1, "z", "", long(70)),
	}
}

// The head is written, and nothing else, by two acts; what stood there does not matter.
func TestFormatOfWhateverStoodThere(t *testing.T) {
	for _, image := range lying() {
		l := born(t, image)
		wantErrno(t, api.OK, l.format(t))
		l.check(t)
		wantRecords(t, l.journal)
		wantNumbers(t, l.journal, 0, (len(image)-1)/2*64-2, (len(image)-1)/2*64-2)
		if got := l.disk.Image(); got[0] != "TJ01"+strings.Repeat("\x00", 60) || !slices.Equal(got[1:], image[1:]) {
			t.Errorf("the image: %.9q", got)
		}
		if l.disk.Acts() != 2 || len(l.disk.Pending()) != 0 {
			t.Errorf("%d acts, %v is pending", l.disk.Acts(), l.disk.Pending())
		}
		l.crash(t)
		wantErrno(t, api.OK, l.open(t))
		l.check(t)
		wantErrno(t, api.OK, l.append(t, "a"), l.renew(t, "b"), l.append(t, "c"))
		l.check(t)
	}
}

// Of every size: as great a record as has room lies in the first area alone.
func TestFormatOfEverySize(t *testing.T) {
	for blocks := 8; blocks <= 140; blocks++ {
		l := begun(t, blocks)
		wantErrno(t, api.OK, l.append(t, long(l.areaBytes()-2)))
		l.check(t)
		wantErrno(t, api.OK, l.renew(t, long(l.areaBytes()-2)))
		l.check(t)
	}
	for _, blocks := range []int{1000, 4095, 4096} {
		l := begun(t, blocks)
		wantErrno(t, api.OK, l.append(t, "a"), l.renew(t, "b"))
		l.check(t)
	}
}

// A Format in which the disk dies, at its first act or at its second one, with all that may be kept of what is pending then, also of what somebody else wrote ahead of it.
func TestFormatThatDies(t *testing.T) {
	for _, image := range lying() {
		for dies := 1; dies <= 2; dies++ {
			for _, keep := range subsets([]int{5, 1, 0}) {
				l := born(t, image)
				l.write(t, 5, stripes(2)[1])
				l.write(t, 1, image[1])
				l.arm(t, dies)
				wantErrno(t, api.ErrDead, l.format(t))
				if got := l.disk.Pending(); !slices.Equal(got, []int{5, 1, 0}) || l.disk.Acts() != 2+dies {
					t.Errorf("%v is pending; %d acts", got, l.disk.Acts())
				}
				l.check(t)
				stood, e := disk.Load(image)
				wantErrno(t, api.OK, e)
				_, had := journal.Open(stood)
				l.crash(t, keep...)
				if slices.Contains(keep, 0) {
					had = api.OK
				}
				// What was kept of block 5 may stand among the records, if these were there.
				if !slices.Contains(keep, 5) || had != api.OK {
					wantErrno(t, had, l.open(t))
				}
				wantErrno(t, api.OK, l.format(t))
				l.check(t)
			}
		}
	}
}

// A third act is none of Format's.
func TestFormatDoesTwoActs(t *testing.T) {
	l := born(t, stripes(8))
	l.arm(t, 3)
	wantErrno(t, api.OK, l.format(t))
	l.check(t)
	wantErrno(t, api.ErrDead, l.sync(t))
}

// A journal is laid anew again and again: nothing of what it had is left.
func TestFormatAgain(t *testing.T) {
	l := begun(t, 8)
	for range 5 {
		wantErrno(t, api.OK, l.append(t, "a"), l.append(t, long(80)), l.renew(t, "b"), l.append(t, "c"))
		l.check(t)
		wantErrno(t, api.OK, l.format(t))
		l.check(t)
		wantErrno(t, api.OK, l.open(t))
		l.check(t)
		wantRecords(t, l.journal)
	}
}
