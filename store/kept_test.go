package store_test

import (
	"runtime"
	"slices"
	"strings"
	"sync"
	"testing"
	"unsafe"
	"weak"

	"tinderbox/api"
	"tinderbox/disk"
	"tinderbox/store"
)

// R2, R3

// What is asked ahead of main is answered as at every other time.
var (
	earlyDisk, earlyDiskErrno     = disk.New(8)
	early, earlyErrno             = store.Format(earlyDisk)
	earlyBegin                    = early.Begin()
	earlyPut, earlyForm           = early.Put(api.Pair{Table: "a", Key: "x", Value: "1"}), early.Put(api.Pair{Table: "A", Key: "x"})
	earlyDrop, earlyTwice         = early.Drop("b", "y"), early.Begin()
	earlyCommit, earlyAbort       = early.Commit(), early.Abort()
	earlyValue, earlyThere        = early.Get("a", "x")
	earlyAll                      = early.All()
	earlyOpened, earlyOpenErrno   = store.Open(earlyDisk)
	earlyArm, earlyAnew           = earlyDisk.Arm(4), earlyOpened.Begin()
	earlyLast, earlyDeath         = earlyOpened.Drop("a", "x"), earlyOpened.Commit()
	earlyDoubt, earlyDead         = earlyOpened.All(), earlyOpened.Begin()
	earlyCrash                    = earlyDisk.Crash([]int{0})
	earlyBehind, earlyBehindErrno = store.Open(earlyDisk)
	earlyNone, earlyNoneErrno     = store.Open(nil)
	earlyBlank, earlyBlankErrno   = disk.New(9)
	earlyNoStore, earlyNoImage    = store.Open(earlyBlank)
)

func TestCallsAheadOfMain(t *testing.T) {
	wantErrno(t, api.OK, earlyDiskErrno, earlyErrno, earlyBegin, earlyPut, earlyDrop, earlyCommit, earlyOpenErrno, earlyArm, earlyAnew, earlyLast, earlyCrash, earlyBehindErrno, earlyBlankErrno)
	wantErrno(t, api.ErrDead, earlyDeath, earlyDead)
	wantErrno(t, api.ErrStoreOpen, earlyTwice, earlyAbort)
	wantErrno(t, api.ErrStoreForm, earlyForm)
	wantErrno(t, api.ErrStoreImage, earlyNoImage)
	wantErrno(t, api.ErrArg, earlyNoneErrno)
	if !slices.Equal(earlyAll, parsedPairs("a/x=1")) || earlyValue != "1" || !earlyThere || len(earlyDoubt) != 0 || earlyNone != nil || earlyNoStore != nil {
		t.Errorf("at start-up: %q, %q, %q", earlyAll, earlyValue, earlyDoubt)
	}
	wantDoubt(t, earlyOpened)
	wantAll(t, earlyBehind)
}

// spoil writes into a list, and into its spare room.
func spoil(list []api.Pair) {
	list = list[:cap(list)]
	for i := range list {
		list[i] = api.Pair{Table: "spoilt"}
	}
}

// Lists that come out, and their spare room, belong to whom they were given.
func TestListsThatComeOutAreNewMemory(t *testing.T) {
	l := laid(t, 200)
	for n := range 20 {
		wantErrno(t, api.OK, l.commits(t, many("t", n, n)...))
		one, two := l.store.All(), l.store.All()
		spoil(one)
		wantErrno(t, api.OK, l.begin(t), l.change(t, "t/k001=9"))
		if !slices.Equal(two, l.pairs) {
			t.Errorf("another answer was written into: %q", two)
		}
		spoil(two[len(two):])
		if !slices.Equal(two, l.pairs) {
			t.Errorf("a list's spare room is its own: %q", two)
		}
		wantErrno(t, api.OK, l.abort(t))
		l.check(t)
		wantErrno(t, api.OK, l.open(t))
		l.check(t)
	}
}

// What was told stays as it is, whatever becomes of the store and its disk.
func TestAnswersStay(t *testing.T) {
	l := holding(t, 9, "a/x=1", "b/y=2")
	all := l.store.All()
	value, _ := l.store.Get("b", "y")
	wantErrno(t, api.OK, l.commits(t, "a/x=3", "b/y", "c/z=4"), l.format(t), l.commits(t, "b/y=9"))
	l.disk.Write(1, strings.Repeat("w", 64))
	if !slices.Equal(all, parsedPairs("a/x=1", "b/y=2")) || value != "2" {
		t.Errorf("%q, %q", all, value)
	}
}

// inside: does a text stand in the memory of another one?
func inside(s, all string) bool {
	if s == "" || all == "" {
		return false
	}
	at, begin := uintptr(unsafe.Pointer(unsafe.StringData(s))), uintptr(unsafe.Pointer(unsafe.StringData(all)))
	return at >= begin && at < begin+uintptr(len(all))
}

// Texts that are told are no pieces of what was handed in.
func TestTextsAreNotKept(t *testing.T) {
	words := strings.Repeat("abcdefghij", 30)
	l := laid(t, 60)
	wantErrno(t, api.OK, l.begin(t))
	for at := range 9 {
		wantErrno(t, api.OK, l.put(t, api.Pair{Table: words[at : at+20], Key: words[at+30 : at+60], Value: words[at+60 : at+200]}))
	}
	wantErrno(t, api.OK, l.commit(t))
	for _, p := range l.store.All() {
		if inside(p.Table, words) || inside(p.Key, words) || inside(p.Value, words) {
			t.Errorf("%q has a piece of another text", p)
		}
		if value, _ := l.store.Get(p.Table, p.Key); inside(value, words) {
			t.Errorf("%q is a piece of another text", value)
		}
	}
	l.check(t)
}

// handed is a store that was handed texts that nobody has any more, and where these were.
//
//go:noinline
func handed(t *testing.T, ends func(*store.Store) api.Errno) (*store.Store, []weak.Pointer[byte]) {
	l := holding(t, 40, "a/x=1", "b/y=2")
	var texts []weak.Pointer[byte]
	text := func(s string) string {
		b := append(make([]byte, 0, 64), s...)
		texts = append(texts, weak.Make(&b[0]))
		return unsafe.String(&b[0], len(b))
	}
	s := l.store
	wantErrno(t, api.OK, s.Begin(),
		s.Put(api.Pair{Table: text("a"), Key: text("x"), Value: text("3")}), s.Put(api.Pair{Table: text("a"), Key: text("x"), Value: text("4")}),
		s.Put(api.Pair{Table: text("c"), Key: text("z"), Value: text("5")}), s.Drop(text("b"), text("y")), s.Drop(text("d"), text("w")), ends(s))
	wantErrno(t, api.ErrStoreForm, s.Put(api.Pair{Table: text("A"), Key: text("x"), Value: text("6")}), s.Drop(text("b"), text("Y")))
	s.Get(text("a"), text("x"))
	return s, texts
}

func TestTextsThatAreHandedInAreNotHeld(t *testing.T) {
	for _, ends := range []func(*store.Store) api.Errno{
		func(*store.Store) api.Errno { return api.OK },
		(*store.Store).Commit,
		(*store.Store).Abort,
	} {
		s, texts := handed(t, ends)
		for range 3 {
			runtime.GC()
		}
		for at, text := range texts {
			if text.Value() != nil {
				t.Errorf("text %d is kept", at)
			}
		}
		if len(s.All()) != 2 {
			t.Errorf("%q", s.All())
		}
	}
}

// Several stores on several disks, by turns: what is done to one bears upon none of the others.
func TestStoresKnowNothingOfOneAnother(t *testing.T) {
	x := numbers(9)
	for range 30 {
		image := imageWith(t, 8+x.next()%4, sayWhole("a/x=1", "b/y=2"))
		var lives []*life
		for range 5 {
			lives = append(lives, born(t, image))
		}
		for range 200 {
			x.do(t, pick(&x, lives))
		}
		for _, l := range lives {
			l.check(t)
		}
	}
}

// One in doubt puts no other one in doubt, nor does one that is begun begin another one.
func TestDoubtIsNotShared(t *testing.T) {
	image := imageWith(t, 8, sayChanges("a/x=1"))
	one, two := born(t, image), born(t, image)
	wantErrno(t, api.OK, one.open(t), two.open(t), one.begin(t), one.change(t, "a/x=2"))
	wantErrno(t, api.ErrStoreOpen, two.commit(t), two.change(t, "a/x=3"))
	one.arm(t, 2)
	wantErrno(t, api.ErrDead, one.commit(t))
	wantErrno(t, api.OK, two.commits(t, "b/y=3"))
	wantDoubt(t, one.store)
	wantAll(t, two.store, "a/x=1", "b/y=3")
	one.check(t)
	two.check(t)
}

// Calls on several stores at one time do not disturb one another, nor do calls that ask one alone.
func TestCallsDoNotDisturbOneAnother(t *testing.T) {
	shared := holding(t, 40, "a/x=1", "b/y=2")
	wantErrno(t, api.OK, shared.begin(t), shared.change(t, "a/x=3"))
	var group sync.WaitGroup
	for worker := range 8 {
		group.Go(func() {
			x := numbers(100 + worker)
			for range 10 {
				own := laid(t, 8+worker)
				for range 40 {
					x.do(t, own)
				}
				own.check(t)
				wantAll(t, shared.store, "a/x=1", "b/y=2")
				wantGet(t, shared.store, "a", "x", "1")
				wantNone(t, shared.store, "c", "z")
			}
		})
	}
	group.Wait()
	shared.check(t)
}
