package journal_test

import (
	"runtime"
	"slices"
	"strings"
	"sync"
	"testing"
	"unsafe"
	"weak"

	"tinderbox/api"
	"tinderbox/disk"
	"tinderbox/journal"
)

// R2, R3

// What is asked ahead of main is answered as at every other time.
var (
	earlyDisk, earlyDiskErrno         = disk.New(8)
	early, earlyErrno                 = journal.Format(earlyDisk)
	earlyAppend, earlyRenew           = early.Append("ab"), early.Renew("z")
	earlyLast, earlyFull              = early.Append("y"), early.Append(strings.Repeat("x", 185))
	earlyRecords, earlyRecordsErrno   = early.Records()
	earlyGen, earlyRoom, earlyBare    = early.Gen(), early.Room(), early.Bare()
	earlyOpened, earlyOpenErrno       = journal.Open(earlyDisk)
	earlyNone, earlyNoneErrno         = journal.Open(nil)
	earlyArm, earlyDeath              = earlyDisk.Arm(4), earlyOpened.Append("w")
	earlyDoubt, earlyDoubtErrno       = earlyOpened.Records()
	earlyCrash                        = earlyDisk.Crash(nil)
	earlyAnew, earlyAnewErrno         = journal.Open(earlyDisk)
	earlyAnewAll, earlyAnewAllErrno   = earlyAnew.Records()
	earlyBlank, earlyBlankErrno       = disk.New(9)
	earlyNoJournal, earlyNoImageErrno = journal.Open(earlyBlank)
)

func TestCallsAheadOfMain(t *testing.T) {
	wantErrno(t, api.OK, earlyDiskErrno, earlyErrno, earlyAppend, earlyRenew, earlyLast, earlyRecordsErrno, earlyOpenErrno, earlyArm, earlyCrash, earlyAnewErrno, earlyAnewAllErrno, earlyBlankErrno)
	wantErrno(t, api.ErrDead, earlyDeath, earlyDoubtErrno)
	wantErrno(t, api.ErrJournalFull, earlyFull)
	wantErrno(t, api.ErrJournalImage, earlyNoImageErrno)
	wantErrno(t, api.ErrArg, earlyNoneErrno)
	if !slices.Equal(earlyRecords, []string{"z", "y"}) || !slices.Equal(earlyAnewAll, earlyRecords) || len(earlyDoubt) != 0 {
		t.Errorf("at start-up: %q, %q, %q", earlyRecords, earlyAnewAll, earlyDoubt)
	}
	if earlyGen != 3 || earlyRoom != 184 || earlyBare != 190 || earlyNone != nil || earlyNoJournal != nil {
		t.Errorf("at start-up: %d, %d, %d", earlyGen, earlyRoom, earlyBare)
	}
	wantDoubt(t, earlyOpened)
	wantRecords(t, earlyAnew, "z", "y")
}

// spoil writes into a list, and into its spare room.
func spoil(list []string) {
	list = list[:cap(list)]
	for i := range list {
		list[i] = "spoilt"
	}
}

// Lists that come out, and their spare room, belong to whom they were given.
func TestListsThatComeOutAreNewMemory(t *testing.T) {
	l := begun(t, 40)
	for n := range 20 {
		wantErrno(t, api.OK, l.append(t, long(n)))
		one, _ := l.journal.Records()
		two, _ := l.journal.Records()
		spoil(one)
		if !slices.Equal(two, l.records) {
			t.Errorf("another answer was written into: %q", two)
		}
		spoil(two[len(two):])
		if !slices.Equal(two, l.records) {
			t.Errorf("a list's spare room is its own: %q", two)
		}
		l.check(t)
		wantErrno(t, api.OK, l.open(t))
		l.check(t)
	}
}

// What was told stays as it is, whatever becomes of the journal and its disk.
func TestAnswersStay(t *testing.T) {
	l := begun(t, 8)
	wantErrno(t, api.OK, l.append(t, "ab"), l.append(t, long(90)))
	all, _ := l.journal.Records()
	wantErrno(t, api.OK, l.renew(t, "x"), l.renew(t, long(150)), l.format(t), l.append(t, "y"))
	l.write(t, 1, strings.Repeat("w", 64))
	if !slices.Equal(all, []string{"ab", long(90)}) {
		t.Errorf("%q", all)
	}
}

// inside: does a text stand in the memory of another one?
func inside(s, all string) bool {
	if s == "" || all == "" {
		return false
	}
	at, begin := uintptr(unsafe.Pointer(unsafe.StringData(s))), uintptr(unsafe.Pointer(unsafe.StringData(all)))
	return at >= begin && at < begin+uintptr(len(all))
}

// Records are pieces neither of what was handed in nor of what was told ahead of them.
func TestTextsAreNotKept(t *testing.T) {
	text := long(600)
	l := begun(t, 40)
	for at := range 6 {
		wantErrno(t, api.OK, l.append(t, text[90*at:90*at+80]))
	}
	one, _ := l.journal.Records()
	two, _ := l.journal.Records()
	for at, s := range one {
		if inside(s, text) || inside(s, two[at]) {
			t.Errorf("record %d is a piece of another text", at)
		}
	}
}

// asked is a journal that was handed a text that nobody has any more, and where this was.
//
//go:noinline
func asked(t *testing.T) (*life, weak.Pointer[byte]) {
	l := begun(t, 40)
	text := []byte(long(500))
	s := unsafe.String(&text[0], len(text))
	wantErrno(t, api.OK, l.journal.Append(s), l.journal.Renew(s))
	wantErrno(t, api.ErrJournalFull, l.journal.Append(s+s+s))
	l.journal.Records()
	return l, weak.Make(&text[0])
}

func TestTextsThatAreHandedInAreNotHeld(t *testing.T) {
	l, text := asked(t)
	for range 3 {
		runtime.GC()
	}
	if text.Value() != nil {
		t.Error("a text is kept")
	}
	wantRecords(t, l.journal, long(500))
}

// Several journals on several disks, by turns: what is done to one bears upon none of the others.
func TestJournalsKnowNothingOfOneAnother(t *testing.T) {
	x := numbers(5)
	for range 30 {
		image := imageOf(8+x.next()%4, x.next(), x.next()%2, "a", long(x.next()%100))
		var lives []*life
		for range 5 {
			lives = append(lives, born(t, image))
		}
		for range 200 {
			x.do(t, pick(&x, lives))
		}
		for _, l := range lives {
			l.check(t)
		}
	}
}

// One in doubt puts no other one in doubt, nor does a dead disk another one.
func TestDoubtIsNotShared(t *testing.T) {
	image := imageOf(8, 3, 0, "a")
	one, two := born(t, image), born(t, image)
	wantErrno(t, api.OK, one.open(t), two.open(t))
	one.arm(t, 2)
	wantErrno(t, api.ErrDead, one.append(t, "b"))
	wantErrno(t, api.OK, two.append(t, "c"))
	wantDoubt(t, one.journal)
	wantRecords(t, two.journal, "a", "c")
	one.check(t)
	two.check(t)
}

// Calls on several journals at one time do not disturb one another, nor do calls that ask one alone.
func TestCallsDoNotDisturbOneAnother(t *testing.T) {
	shared := opened(t, 40, 3, 0, "a", "", long(300))
	var group sync.WaitGroup
	for worker := range 8 {
		group.Go(func() {
			x := numbers(100 + worker)
			for range 10 {
				own := begun(t, 8+worker)
				for range 40 {
					x.do(t, own)
				}
				own.check(t)
				wantRecords(t, shared.journal, "a", "", long(300))
				wantNumbers(t, shared.journal, 3, 19*64-309, 19*64-2)
			}
		})
	}
	group.Wait()
	shared.check(t)
}
