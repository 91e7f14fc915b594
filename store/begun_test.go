package store_test

import (
	"slices"
	"strings"
	"testing"

	"tinderbox/api"
	"tinderbox/store"
)

// The chapter's examples

func TestExamples(t *testing.T) {
	l := laid(t, 8)
	wantErrno(t, api.OK, l.begin(t), l.change(t, "a/x=1"))
	wantNone(t, l.store, "a", "x")
	wantErrno(t, api.OK, l.commit(t))
	wantGet(t, l.store, "a", "x", "1")
	wantErrno(t, api.OK, l.begin(t), l.change(t, "a/x=2"), l.change(t, "a/x"), l.change(t, "b/y="), l.abort(t))
	wantAll(t, l.store, "a/x=1")
	wantErrno(t, api.ErrStoreOpen, l.change(t, "a/x=2"))
	wantErrno(t, api.ErrStoreForm, l.change(t, "A/x=2"))
	wantErrno(t, api.OK, l.begin(t))
	wantErrno(t, api.ErrStoreOpen, l.begin(t))
	l.check(t)

	wantRecords(t, l.disk, "\x00\x01\x61\x01\x78\x01\x01\x31")
	wantErrno(t, api.OK, l.change(t, "a/x"), l.commit(t))
	wantRecords(t, l.disk, "\x00\x01\x61\x01\x78\x01\x01\x31", "\x00\x01\x61\x01\x78\x00")
	l = born(t, imageWith(t, 8, "\x01\x01\x61\x01\x78\x01\x31"))
	wantErrno(t, api.OK, l.open(t))
	wantAll(t, l.store, "a/x=1")

	acts := l.disk.Acts()
	wantErrno(t, api.OK, l.commits(t, "a/x=1", "c/z"))
	wantActs(t, l, acts)

	for dies := 1; dies <= 4; dies++ {
		for _, keep := range [][]int{nil, {0}, {1}} {
			l := holding(t, 8, "a/x=1")
			l.arm(t, dies)
			wantErrno(t, api.ErrDead, l.commits(t, "a/x=2"), l.begin(t))
			wantAll(t, l.store)
			if l.disk.Crash(keep) != api.OK {
				continue
			}
			s, e := store.Open(l.disk)
			wantErrno(t, api.OK, e)
			if dies > 2 && slices.Equal(keep, []int{0}) {
				wantAll(t, s, "a/x=2")
			} else {
				wantAll(t, s, "a/x=1")
			}
		}
	}
}

// S2: what is asked

func TestGetAndAll(t *testing.T) {
	l := laid(t, 400)
	for _, s := range []string{"a/x=1", "a/x.=2", "a-/x=3", "a/-=4", "aa/x=5", "0/x=6", "_/x=7", "./x=8", "-/x=9", "a/x0=", "z/x=\x00\xff"} {
		wantErrno(t, api.OK, l.commits(t, s))
		l.check(t)
	}
	want := []string{"-/x=9", "./x=8", "0/x=6", "_/x=7", "a/-=4", "a/x=1", "a/x.=2", "a/x0=", "a-/x=3", "aa/x=5", "z/x=\x00\xff"}
	wantAll(t, l.store, want...)
	wantErrno(t, api.OK, l.open(t))
	wantAll(t, l.store, want...)
	for _, s := range want {
		p := parsed(s).pair
		wantGet(t, l.store, p.Table, p.Key, p.Value)
		wantNone(t, l.store, p.Table, p.Key+"1")
		wantNone(t, l.store, p.Table+p.Key, "")
		wantNone(t, l.store, "", p.Table+p.Key)
	}
	for _, p := range []api.Pair{{}, {Table: "a"}, {Key: "x"}, {Table: "x", Key: "a"}, {Table: "A", Key: "x"}, {Table: "a", Key: "X"}, {Table: "a/", Key: "x"}, {Table: "\xff", Key: "\x00"}, {Table: strings.Repeat("a", 1<<20), Key: "x"}} {
		wantNone(t, l.store, p.Table, p.Key)
	}
}

// The changes of a store that is begun are not seen, up to the Commit.
func TestAskedOfOneThatIsBegun(t *testing.T) {
	for _, ends := range []func(*life) api.Errno{
		func(l *life) api.Errno { return l.commit(t) },
		func(l *life) api.Errno { return l.abort(t) },
	} {
		l := holding(t, 64, "a/x=1", "b/y=2")
		wantErrno(t, api.OK, l.begin(t))
		for _, s := range []string{"a/x=2", "a/x", "b/y", "b/y=3", "c/z=4", "a/w=", "c/z", "c/z=5"} {
			wantErrno(t, api.OK, l.change(t, s))
			wantAll(t, l.store, "a/x=1", "b/y=2")
			wantGet(t, l.store, "a", "x", "1")
			wantNone(t, l.store, "c", "z")
			l.check(t)
		}
		wantErrno(t, api.OK, ends(l))
		l.check(t)
	}
}

// Of a dead disk they tell none, and put nothing in doubt: it goes on behind a Crash, begun as it was.
func TestAskedOfADeadDisk(t *testing.T) {
	l := holding(t, 64, "a/x=1")
	for range 3 {
		wantErrno(t, api.OK, l.begin(t), l.change(t, "a/x=2"))
		l.kill(t)
		for range 3 {
			wantNone(t, l.store, "a", "x")
			wantAll(t, l.store)
			l.check(t)
		}
		l.crash(t)
		l.check(t)
		wantAll(t, l.store, "a/x=1")
		wantErrno(t, api.ErrStoreOpen, l.begin(t))
		wantErrno(t, api.OK, l.change(t, "b/y=3"), l.commit(t))
		wantAll(t, l.store, "a/x=2", "b/y=3")
		wantErrno(t, api.OK, l.commits(t, "a/x=1", "b/y"))
		l.check(t)
	}
}

// Nor does a call that is refused for what it is given alone.
func TestWhatPutsNothingInDoubt(t *testing.T) {
	for _, begun := range []bool{false, true} {
		l := holding(t, 64, "a/x=1")
		if begun {
			wantErrno(t, api.OK, l.begin(t), l.change(t, "a/x=2"))
		}
		l.kill(t)
		wantErrno(t, api.ErrStoreForm, l.change(t, "A/x=1"), l.change(t, "a/="), l.change(t, "/x"), l.change(t, "a/X"), l.change(t, "a/x="+long(201)))
		wantErrno(t, api.ErrDead, l.open(t), l.format(t))
		l.crash(t)
		l.check(t)
		if begun {
			wantErrno(t, api.OK, l.commit(t))
		} else {
			wantErrno(t, api.OK, l.begin(t))
		}
		l.check(t)
	}
}

// Each call that answers ErrDead does, though the disk died by somebody else's act, and nothing was lost.
func TestWhatPutsInDoubt(t *testing.T) {
	for _, call := range []func(*life) api.Errno{
		func(l *life) api.Errno { return l.begin(t) },
		func(l *life) api.Errno { return l.change(t, "a/x=1") },
		func(l *life) api.Errno { return l.change(t, "c/z") },
		func(l *life) api.Errno { return l.commit(t) },
		func(l *life) api.Errno { return l.abort(t) },
	} {
		for _, begun := range []bool{false, true} {
			l := holding(t, 64, "a/x=1")
			if begun {
				wantErrno(t, api.OK, l.begin(t), l.change(t, "a/x=2"))
			}
			l.kill(t)
			wantErrno(t, api.ErrDead, call(l))
			l.check(t)
			l.crash(t)
			wantNone(t, l.store, "a", "x")
			wantAll(t, l.store)
			for range 2 {
				wantDoubt(t, l.store)
				l.check(t)
				l.crash(t)
			}
			old := l.store
			wantErrno(t, api.OK, l.open(t))
			wantAll(t, l.store, "a/x=1")
			wantDoubt(t, old)
			wantErrno(t, api.OK, l.commits(t, "a/x=3"))
			wantDoubt(t, old)
			l.check(t)
		}
	}
}

// S3: what is begun

// Who is begun, and who is not: all short rows of calls.
func TestBegunAndNot(t *testing.T) {
	calls := []func(*life){
		func(l *life) { l.begin(t) },
		func(l *life) { l.change(t, "a/x=2") },
		func(l *life) { l.change(t, "a/x") },
		func(l *life) { l.change(t, "b/y=1") },
		func(l *life) { l.commit(t) },
		func(l *life) { l.abort(t) },
		func(l *life) { l.open(t) },
	}
	var row func(past []int)
	row = func(past []int) {
		l := born(t, imageWith(t, 64, sayChanges("a/x=1")))
		l.open(t)
		for _, n := range past {
			calls[n](l)
		}
		l.check(t)
		for n := range calls {
			if len(past) < 5 && !t.Failed() {
				row(append(slices.Clip(past), n))
			}
		}
	}
	row(nil)
}

// Of an Abort nothing is left.
func TestAbort(t *testing.T) {
	l := holding(t, 64, "a/x=1", "b/y=2")
	acts := l.disk.Acts()
	for range 3 {
		wantErrno(t, api.OK, l.begin(t), l.change(t, "a/x=9"), l.change(t, "b/y"), l.change(t, "c/z=3"), l.abort(t))
		wantErrno(t, api.ErrStoreOpen, l.abort(t), l.commit(t), l.change(t, "a/x=9"), l.change(t, "b/y"))
		wantErrno(t, api.OK, l.begin(t), l.commit(t))
		l.check(t)
	}
	wantActs(t, l, acts)
	wantAll(t, l.store, "a/x=1", "b/y=2")
	wantErrno(t, api.OK, l.commits(t, "d/w=4"))
	wantAll(t, l.store, "a/x=1", "b/y=2", "d/w=4")
	wantRecords(t, l.disk, sayChanges("a/x=1", "b/y=2"), sayChanges("d/w=4"))
}

// Pairs that are right, and that are not.
func TestForm(t *testing.T) {
	l := laid(t, 400)
	wantErrno(t, api.OK, l.begin(t))
	for _, length := range []int{0, 1, 31, 32, 33, 64, 200, 1 << 20} {
		word := strings.Repeat("w", length)
		want := api.OK
		if length < 1 || length > 32 {
			want = api.ErrStoreForm
		}
		wantErrno(t, want,
			l.put(t, api.Pair{Table: word, Key: "x", Value: "1"}), l.put(t, api.Pair{Table: "a", Key: word, Value: "1"}), l.put(t, api.Pair{Table: word, Key: word}),
			l.drop(t, word, "x"), l.drop(t, "a", word), l.drop(t, word, word))
	}
	for b := range 256 {
		letter := string([]byte{byte(b)})
		want := api.ErrStoreForm
		if strings.Contains("abcdefghijklmnopqrstuvwxyz0123456789-_.", letter) {
			want = api.OK
		}
		for _, word := range []string{letter, "a" + letter, letter + "a", "a" + letter + "a"} {
			wantErrno(t, want, l.put(t, api.Pair{Table: word, Key: "x"}), l.put(t, api.Pair{Table: "a", Key: word}), l.drop(t, word, "x"), l.drop(t, "a", word))
		}
		wantErrno(t, api.OK, l.put(t, api.Pair{Table: "v", Key: "x", Value: letter}))
	}
	for _, length := range []int{0, 1, 127, 128, 199, 200} {
		wantErrno(t, api.OK, l.put(t, api.Pair{Table: "v", Key: "y", Value: long(length)}))
	}
	for _, length := range []int{201, 202, 255, 256, 456, 1 << 20} {
		wantErrno(t, api.ErrStoreForm, l.put(t, api.Pair{Table: "v", Key: "y", Value: long(length)}))
	}
	// What was refused is no change.
	wantErrno(t, api.OK, l.commit(t))
	l.check(t)
	wantGet(t, l.store, "v", "y", long(200))
	wantErrno(t, api.OK, l.open(t))
	l.check(t)
}

// Values have any bytes.
func TestValuesOfAllBytes(t *testing.T) {
	l := laid(t, 400)
	var all [256]byte
	for b := range all {
		all[b] = byte(b)
	}
	wantErrno(t, api.OK, l.begin(t),
		l.put(t, api.Pair{Table: "a", Key: "x", Value: string(all[:200])}), l.put(t, api.Pair{Table: "a", Key: "y", Value: string(all[56:])}),
		l.put(t, api.Pair{Table: "a", Key: "z", Value: "\x00\x01a\x01x\x00"}), l.put(t, api.Pair{Table: "a", Key: "zz", Value: "ä\xff\n/="}),
		l.commit(t))
	l.check(t)
	wantErrno(t, api.OK, l.open(t))
	l.check(t)
	wantGet(t, l.store, "a", "x", string(all[:200]))
	wantGet(t, l.store, "a", "y", string(all[56:]))
	wantGet(t, l.store, "a", "z", "\x00\x01a\x01x\x00")
	wantGet(t, l.store, "a", "zz", "ä\xff\n/=")
}

// Several errors: the one that is named first. What is refused changes nothing.
func TestSeveralErrors(t *testing.T) {
	for trouble := range 8 {
		dead, doubt, begun := trouble&1 > 0, trouble&2 > 0, trouble&4 > 0
		l := holding(t, 8, "a/x=1")
		if begun {
			wantErrno(t, api.OK, l.begin(t), l.change(t, "a/x=2"))
		}
		if doubt {
			l.kill(t)
			wantErrno(t, api.ErrDead, l.change(t, "a/x=3"))
			l.crash(t)
		}
		if dead {
			l.kill(t)
		}
		acts, image := l.disk.Acts(), l.disk.Image()
		for range 2 {
			wantErrno(t, api.ErrStoreForm,
				l.put(t, api.Pair{Table: "A", Key: "x"}), l.put(t, api.Pair{Table: "a", Key: ""}), l.put(t, api.Pair{Table: "a", Key: "x", Value: long(201)}), l.put(t, api.Pair{}),
				l.drop(t, "A", "x"), l.drop(t, "a", ""), l.drop(t, "", ""))
			if begun && !dead && !doubt {
				wantErrno(t, api.ErrStoreOpen, l.begin(t))
				continue
			}
			want := api.ErrStoreOpen
			if dead || doubt {
				want = api.ErrDead
				wantErrno(t, want, l.begin(t))
			}
			wantErrno(t, want, l.put(t, api.Pair{Table: "a", Key: "x"}), l.drop(t, "a", "x"), l.commit(t), l.abort(t))
		}
		l.check(t)
		wantActs(t, l, acts)
		if !slices.Equal(l.disk.Image(), image) {
			t.Errorf("trouble %b: a call that was refused wrote", trouble)
		}
	}
}
