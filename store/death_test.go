package store_test

import (
	"slices"
	"strings"
	"testing"

	"tinderbox/api"
	"tinderbox/store"
)

// S4, S5, R4: a death in a Commit

// ahead are stores ahead of a Commit: without pairs; with some; with so many that some records have no room; opened anew.
func ahead(t *testing.T) []*life {
	opened := holding(t, 10, "a/x=1", "b/y="+long(40), "c/z=3")
	wantErrno(t, api.OK, opened.commits(t, "b/y", "d/w="), opened.open(t))
	return []*life{
		laid(t, 8),
		holding(t, 9, "a/x=1", "b/y=2"),
		holding(t, 8, "a/x=1", "b/y="+long(150)),
		opened,
	}
}

// deeds are changes that are committed.
func deeds() [][]string {
	return [][]string{
		{"a/x=2"},
		{"a/x", "b/y"},
		{"a/x", "b/y=" + long(70), "c/z=4", "e/v="},
		{"b/y=" + long(160)},
		{"a/y=" + long(130)},
		{"a/x=2", "b/y=3", "c/z=4", "d/w=5", "e/v=" + long(20)},
	}
}

// actsOf is how many acts a Commit does.
func actsOf(t *testing.T, which int, changes []string) int {
	t.Helper()
	l := ahead(t)[which]
	acts := l.disk.Acts()
	l.commits(t, changes...)
	return l.disk.Acts() - acts
}

// A death at each act of a Commit, with each set of pending blocks kept.
func TestEveryDeath(t *testing.T) {
	deaths := map[byte]int{}
	for which := range ahead(t) {
		for _, changes := range deeds() {
			for dies := 1; dies <= actsOf(t, which, changes); dies++ {
				l := ahead(t)[which]
				l.arm(t, dies)
				wantErrno(t, api.ErrDead, l.commits(t, changes...))
				for _, keep := range subsets(l.disk.Pending()) {
					l := ahead(t)[which]
					had := l.pairs
					_, next := counting(had, changesOf(changes))
					l.arm(t, dies)
					wantErrno(t, api.ErrDead, l.commits(t, changes...))
					l.check(t)
					wantAfterDeath(t, l, keep, had, next)
					deaths[firstByte(t, which, changes)]++
				}
			}
		}
	}
	if deaths[0] < 100 || deaths[1] < 30 {
		t.Errorf("%v", deaths)
	}
}

func changesOf(all []string) []change {
	var changes []change
	for _, s := range all {
		changes = append(changes, parsed(s))
	}
	return changes
}

// firstByte is the first byte of the first record that stands there behind a Commit: changes, or, behind a Renew, the whole.
func firstByte(t *testing.T, which int, changes []string) byte {
	t.Helper()
	l := ahead(t)[which]
	wantErrno(t, api.OK, l.commits(t, changes...))
	records, e := l.journal.Records()
	wantErrno(t, api.OK, e)
	return records[0][0]
}

// wantAfterDeath: a store whose disk died in a Commit is in doubt; behind a Crash it still is, and what is opened has what there was, or, if the head was kept, what there would have been.
func wantAfterDeath(t *testing.T, l *life, keep []int, had, next []api.Pair) {
	t.Helper()
	old := l.store
	wantDoubt(t, old)
	if s, e := store.Open(l.disk); s != nil || e != api.ErrDead {
		t.Errorf("Open of a dead disk: %d", e)
	}
	l.crash(t, keep...)
	wantDoubt(t, old)
	l.check(t)
	wantErrno(t, api.OK, l.open(t))
	l.check(t)
	// The twin, too, tells what Open finds; this is S5 by itself.
	if slices.Contains(keep, 0) {
		wantPairs(t, l.store, next)
	} else {
		wantPairs(t, l.store, had)
	}
	wantErrno(t, api.ErrStoreOpen, l.commit(t), l.abort(t))
	wantErrno(t, api.OK, l.commits(t, "a/new=1", "b/y"), l.commits(t, "a/new=2"))
	l.check(t)
	wantDoubt(t, old)
	wantErrno(t, api.OK, l.open(t))
	l.check(t)
}

// What the store answers behind a death, whatever is asked first.
func TestWhatIsAnsweredBehindADeath(t *testing.T) {
	for _, first := range []func(*life){
		func(l *life) { wantNone(t, l.store, "a", "x") },
		func(l *life) { wantAll(t, l.store) },
		func(l *life) { wantErrno(t, api.ErrDead, l.begin(t)) },
		func(l *life) { wantErrno(t, api.ErrDead, l.commit(t)) },
		func(l *life) { wantErrno(t, api.ErrDead, l.abort(t)) },
		func(l *life) { wantErrno(t, api.ErrDead, l.change(t, "a/x=3")) },
		func(l *life) { wantErrno(t, api.ErrDead, l.change(t, "a/x")) },
		func(l *life) { wantErrno(t, api.ErrStoreForm, l.change(t, "a/x="+long(201)), l.change(t, "A/x")) },
	} {
		for dies := 1; dies <= 4; dies++ {
			for _, crashed := range []bool{false, true} {
				l := holding(t, 8, "a/x=1")
				l.arm(t, dies)
				wantErrno(t, api.ErrDead, l.commits(t, "a/x=2"))
				if crashed {
					l.crash(t, l.disk.Pending()...)
				}
				first(l)
				l.check(t)
				wantDoubt(t, l.store)
			}
		}
	}
}

// A death just behind the last act of a Commit bears upon nothing; nor does a Commit that does no act bring one nearer.
func TestDeathBesideACommit(t *testing.T) {
	for which := range ahead(t) {
		for _, changes := range deeds() {
			l := ahead(t)[which]
			l.arm(t, actsOf(t, which, changes)+1)
			acts := l.disk.Acts()
			wantErrno(t, api.OK, l.commits(t, "e/none"))
			if e := l.commits(t, changes...); e == api.ErrDead {
				t.Errorf("%.9q: dead", changes)
			}
			for range 2 {
				if e := l.commits(t, many("f", 9, 200)...); e != api.ErrJournalFull {
					t.Errorf("%.9q: %d", changes, e)
				}
				l.commits(t, changes...)
			}
			wantErrno(t, api.OK, l.begin(t), l.abort(t))
			wantActs(t, l, acts+actsOf(t, which, changes))
			l.check(t)
			wantErrno(t, api.ErrDead, l.sync(t))
			l.crash(t)
			l.check(t)
			wantErrno(t, api.OK, l.begin(t), l.abort(t), l.open(t))
			l.check(t)
		}
	}
}

// Death upon death: each Open finds what the one ahead of it found, until a Commit comes through.
func TestManyDeathsOfOneCommit(t *testing.T) {
	for which := range ahead(t) {
		for _, changes := range deeds() {
			l := ahead(t)[which]
			had := l.pairs
			acts := actsOf(t, which, changes)
			for dies := 1; dies <= acts; dies++ {
				for range 2 {
					l.arm(t, dies)
					wantErrno(t, api.ErrDead, l.commits(t, changes...))
					l.crash(t, slices.DeleteFunc(l.disk.Pending(), func(n int) bool { return n == 0 })...)
					wantErrno(t, api.OK, l.open(t))
					wantPairs(t, l.store, had)
				}
			}
			if acts > 0 {
				wantErrno(t, api.OK, l.commits(t, changes...))
				l.check(t)
			}
		}
	}
}

// A death in the middle of records of many blocks, which are appended, and renewed.
func TestDeathInAGreatRecord(t *testing.T) {
	x := numbers(2)
	for _, changes := range [][]string{sized(60000, 1, 1), sized(60000-206, 0, 1)} {
		for _, dies := range []int{1, 500, 938, 939, 940, 941} {
			l := holding(t, 4096, "0/x="+long(200))
			had := l.pairs
			_, next := counting(had, changesOf(changes))
			l.arm(t, dies)
			wantErrno(t, api.ErrDead, l.commits(t, changes...))
			l.check(t)
			wantAfterDeath(t, l, x.some(l.disk.Pending()), had, next)
		}
	}
}

// Where somebody else writes to its disk, or puts another one in its place, nothing is promised but that each call ends, and none panics.
func TestSomebodyElseWritesToItsDisk(t *testing.T) {
	x := numbers(3)
	for range 200 {
		l := holding(t, 8+x.next()%40, "a/x=1", "b/y="+long(x.next()%100))
		for range 20 {
			switch x.next() % 4 {
			case 0:
				l.disk.Write(x.next()%l.disk.Size(), strings.Repeat(string([]byte{byte(x.next())}), 64))
			case 1:
				l.disk.Write(x.next()%l.disk.Size(), noughts(1)[0])
			case 2:
				*l.disk = *born(t, noughts(8+x.next()%40)).disk
			}
			if broken(func() {
				l.store.Begin()
				l.store.Put(api.Pair{Table: "a", Key: "x", Value: long(x.next() % 200)})
				l.store.Drop("b", "y")
				l.store.Commit()
				l.store.Get("a", "x")
				l.store.All()
				store.Open(l.disk)
			}) {
				t.Fatal("it panics")
			}
		}
	}
}

// broken: did a call not come to its end?
func broken(call func()) (yes bool) {
	defer func() { yes = recover() != nil }()
	call()
	return false
}
