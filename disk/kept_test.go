package disk_test

import (
	"runtime"
	"slices"
	"strings"
	"sync"
	"testing"
	"unsafe"
	"weak"

	"tinderbox/api"
	"tinderbox/disk"
)

// R2, R3

// What is asked ahead of main is answered as at every other time.
var (
	early, earlyErrno               = disk.New(8)
	earlyArm, earlyWrite, earlySync = early.Arm(4), early.Write(3, strings.Repeat("a", 64)), early.Sync()
	earlyAgain, earlyDeath          = early.Write(5, strings.Repeat("b", 64)), early.Write(0, strings.Repeat("c", 64))
	earlyRead, earlyReadErrno       = early.Read(3)
	earlyPending, earlyImage        = early.Pending(), early.Image()
	earlyDead, earlyActs            = early.Dead(), early.Acts()
	earlyWrong                      = early.Crash([]int{3})
	earlyCrash                      = early.Crash([]int{0})
	earlyLoaded, earlyLoadErrno     = disk.Load(earlyImage)
	earlyNone, earlyNoneErrno       = disk.New(7)
	earlyNoLoad, earlyNoLoadErrno   = disk.Load(earlyImage[:7])
)

func TestCallsAheadOfMain(t *testing.T) {
	wantErrno(t, api.OK, earlyErrno, earlyArm, earlyWrite, earlySync, earlyAgain, earlyCrash, earlyLoadErrno)
	wantErrno(t, api.ErrDead, earlyDeath, earlyReadErrno)
	wantErrno(t, api.ErrArg, earlyWrong, earlyNoneErrno, earlyNoLoadErrno)
	if earlyRead != "" || !earlyDead || earlyActs != 4 || earlyNone != nil || earlyNoLoad != nil {
		t.Errorf("at start-up: %q, %t, %d", earlyRead, earlyDead, earlyActs)
	}
	if !slices.Equal(earlyPending, []int{5, 0}) || letters(earlyImage) != "c00a0b00" {
		t.Errorf("at start-up: %v, %q", earlyPending, letters(earlyImage))
	}
	wantReads(t, early, "c00a0000")
	wantReads(t, earlyLoaded, "c00a0b00")
	wantActs(t, early, 4)
	wantActs(t, earlyLoaded, 0)
}

// spoil writes into a list, and into its spare room.
func spoil[E any](list []E, with E) {
	list = list[:cap(list)]
	for i := range list {
		list[i] = with
	}
}

// Lists that come out, and their spare room, belong to whom they were given.
func TestListsThatComeOutAreNewMemory(t *testing.T) {
	x := numbers(5)
	for range 200 {
		d, m := fresh(t, 8+x.next()%8)
		for range 30 {
			x.do(t, d, m)
			pending, image := d.Pending(), d.Image()
			others, otherImage := d.Pending(), d.Image()
			spoil(pending, 77)
			spoil(image, "spoilt")
			if !slices.Equal(others, m.pending()) || !slices.Equal(otherImage, m.image()) {
				t.Errorf("another answer was written into: %v, %q", others, letters(otherImage))
			}
			spoil(others[len(others):], 77)
			spoil(otherImage[len(otherImage):], "spoilt")
			if !slices.Equal(others, m.pending()) || !slices.Equal(otherImage, m.image()) {
				t.Errorf("a list's spare room is another one's: %v, %q", others, letters(otherImage))
			}
		}
		m.check(t, d)
	}
}

// What was told stays as it is, whatever becomes of the disk.
func TestAnswersStay(t *testing.T) {
	d, m := fresh(t, 8)
	m.wantWrite(t, d, 1, full("a"))
	m.wantWrite(t, d, 2, full("b"))
	pending, image := d.Pending(), d.Image()
	read, _ := d.Read(1)
	m.wantWrite(t, d, 1, full("c"))
	m.wantWrite(t, d, 0, full("c"))
	m.wantSync(t, d)
	m.wantWrite(t, d, 7, full("d"))
	m.wantCrash(t, d)
	if !slices.Equal(pending, []int{1, 2}) || letters(image) != "0ab00000" || read != full("a") {
		t.Errorf("%v, %q, %.3q", pending, letters(image), read)
	}
	m.check(t, d)
}

// Neither lists that are handed in nor their spare room are written into.
func TestListsThatAreHandedInAreNotWrittenInto(t *testing.T) {
	x := numbers(6)
	for range 200 {
		d, m := unsettled(t)
		keep := append(x.some([]int{5, 2, 7}), pick(&x, []int{5, 2, 7, 7, 1, 9, -1}))
		room := slices.Concat(keep, []int{5, 2, 7, 0})
		was := slices.Clone(room)
		m.wantCrash(t, d, room[:len(keep)]...)
		m.wantCrash(t, d, room[:len(keep)-1]...)
		d.Write(3, full("w"))
		d.Sync()
		if !slices.Equal(room, was) {
			t.Errorf("Crash wrote into its list: %v, which was %v", room, was)
		}
		image := append(stripes(9), "room", "room")
		imageWas := slices.Clone(image)
		for count := range len(image) + 1 {
			if other, e := disk.Load(image[:count]); e == api.OK {
				other.Write(0, full("w"))
				other.Sync()
			}
		}
		if !slices.Equal(image, imageWas) {
			t.Errorf("Load wrote into its list")
		}
	}
}

// What is written into lists behind the call bears upon nothing.
func TestListsThatAreHandedInAreNotLookedAtAgain(t *testing.T) {
	image := stripes(9)
	d, m := loaded(t, image)
	spoil(image, full("s"))
	m.check(t, d)
	for _, n := range []int{4, 2, 8} {
		m.wantWrite(t, d, n, full("w"))
	}
	keep := []int{2, 8}
	m.wantCrash(t, d, keep...)
	spoil(keep, 4)
	m.check(t, d)
	m.wantWrite(t, d, 3, full("x"))
	spoil(keep, 5)
	m.check(t, d)
	m.wantCrash(t, d)
	m.check(t, d)
}

// asked is a disk that was handed lists that nobody has any more, and where these were.
//
//go:noinline
func asked(wrong ...int) (*disk.Disk, weak.Pointer[string], weak.Pointer[int]) {
	image := stripes(9)
	d, _ := disk.Load(image)
	d.Write(3, full("w"))
	d.Write(4, full("w"))
	keep := append([]int{4, 3}, wrong...)
	d.Crash(keep)
	return d, weak.Make(&image[0]), weak.Make(&keep[0])
}

func TestListsThatAreHandedInAreNotKept(t *testing.T) {
	for _, wrong := range [][]int{nil, {5}, {4}} {
		d, image, keep := asked(wrong...)
		for range 3 {
			runtime.GC()
		}
		if image.Value() != nil || keep.Value() != nil {
			t.Error("a list is kept")
		}
		runtime.KeepAlive(d)
	}
}

// inside: does a text stand in the memory of another one?
func inside(s, all string) bool {
	if s == "" || all == "" {
		return false
	}
	at, begin := uintptr(unsafe.Pointer(unsafe.StringData(s))), uintptr(unsafe.Pointer(unsafe.StringData(all)))
	return at >= begin && at < begin+uintptr(len(all))
}

// What is read is no piece of what was handed in, nor of what was read ahead of it.
func TestTextsAreNotKept(t *testing.T) {
	text := strings.Repeat("text", 16*9)
	var image []string
	for n := range 8 {
		image = append(image, text[64*n:64*n+64])
	}
	d, m := loaded(t, image)
	m.wantWrite(t, d, 3, text[7:71])
	m.check(t, d)
	all := d.Image()
	for n := range 8 {
		one, _ := d.Read(n)
		two, _ := d.Read(n)
		if inside(one, text) || inside(all[n], text) || inside(one, two) || inside(one, all[n]) {
			t.Errorf("block %d is a piece of another text", n)
		}
	}
}

// Several disks, by turns: what is done to one bears upon none of the others.
func TestDisksKnowNothingOfOneAnother(t *testing.T) {
	x := numbers(7)
	for range 40 {
		var disks []*disk.Disk
		var models []*model
		image := stripes(8 + x.next()%4)
		for at := range 6 {
			d, m := loaded(t, image)
			if at%2 == 0 {
				d, m = fresh(t, len(image))
			}
			disks, models = append(disks, d), append(models, m)
		}
		for range 200 {
			at := x.next() % len(disks)
			x.do(t, disks[at], models[at])
		}
		for at, d := range disks {
			models[at].check(t, d)
		}
		// One more, of what one of them is now.
		d, m := loaded(t, disks[0].Image())
		for range 30 {
			x.do(t, d, m)
			x.do(t, disks[0], models[0])
		}
		m.check(t, d)
		models[0].check(t, disks[0])
	}
}

// Calls on several disks at one time do not disturb one another, nor do calls that ask one alone.
func TestCallsDoNotDisturbOneAnother(t *testing.T) {
	shared, m := unsettled(t)
	image := stripes(9)
	var group sync.WaitGroup
	for worker := range 8 {
		group.Go(func() {
			x := numbers(100 + worker)
			for range 20 {
				own, ownModel := loaded(t, image)
				for range 40 {
					x.do(t, own, ownModel)
				}
				ownModel.check(t, own)
				m.check(t, shared)
			}
		})
	}
	group.Wait()
	m.check(t, shared)
}
