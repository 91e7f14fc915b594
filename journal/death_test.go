package journal_test

import (
	"slices"
	"testing"

	"tinderbox/api"
)

// J5, R4

// deed is a call of a journal.
type deed func(*life) api.Errno

// deeds are Appends and Renews of records that end in several places.
func deeds(t *testing.T) []deed {
	var all []deed
	for _, s := range []string{"", "ab", long(48), long(49), long(50), long(62), long(63), long(112), long(140), long(176)} {
		all = append(all,
			func(l *life) api.Errno { return l.append(t, s) },
			func(l *life) api.Errno { return l.renew(t, s) },
		)
	}
	return all
}

// ahead are journals ahead of them: without records; with records that end with a block, and within one.
func ahead(t *testing.T) []*life {
	return []*life{
		begun(t, 8),
		opened(t, 9, 3, 0, "old", long(57)),
		opened(t, 10, 3, 1, long(70), "", ""),
	}
}

// actsOf is how many acts a call does.
func actsOf(t *testing.T, which int, call deed) int {
	t.Helper()
	l := ahead(t)[which]
	acts := l.disk.Acts()
	if call(l) != api.OK {
		return 0
	}
	return l.disk.Acts() - acts
}

// A death at each act of an Append and of a Renew, with each set of pending blocks kept.
func TestEveryDeath(t *testing.T) {
	for which := range ahead(t) {
		for _, call := range deeds(t) {
			for dies := 1; dies <= actsOf(t, which, call); dies++ {
				l := ahead(t)[which]
				l.arm(t, dies)
				wantErrno(t, api.ErrDead, call(l))
				for _, keep := range subsets(l.disk.Pending()) {
					l := ahead(t)[which]
					l.arm(t, dies)
					call(l)
					l.check(t)
					wantAfterDeath(t, l, keep)
				}
			}
		}
	}
}

// wantAfterDeath: a journal whose disk died in a call is in doubt; behind a Crash it still is, and what is opened goes on from there.
func wantAfterDeath(t *testing.T, l *life, keep []int) {
	t.Helper()
	old, had, gen, pending := l.journal, l.records, l.gen, len(l.disk.Pending())
	wantDoubt(t, old)
	l.crash(t, keep...)
	wantDoubt(t, old)
	l.check(t)
	wantErrno(t, api.OK, l.open(t))
	l.check(t)
	// The twin, too, tells what Open finds; this is J5 by itself.
	if head := slices.Contains(keep, 0); head != (l.gen == gen+1) || !head && (l.gen != gen || !slices.Equal(l.records, had)) {
		t.Errorf("behind %v: of %d blocks %v was kept: generation %d, the records %.9q", l.brief(), pending, keep, l.gen, l.records)
	}
	wantDoubt(t, old)
	wantErrno(t, api.OK, l.renew(t, "new"), l.append(t, "and on"))
	l.check(t)
	wantDoubt(t, old)
}

// The blocks of the record are written rising, each once, and last ahead of the head: what is pending at each death.
func TestOrderOfTheActs(t *testing.T) {
	data := []int{7, 8, 9, 10}
	for dies, want := range [][]int{1: data[:1], data[:2], data[:3], data, data, {0}, {0}} {
		if dies == 0 {
			continue
		}
		appended, renewed := opened(t, 13, 3, 1, "a"), opened(t, 13, 3, 0, "a")
		appended.arm(t, dies)
		renewed.arm(t, dies)
		wantErrno(t, api.ErrDead, appended.append(t, long(3*64)), renewed.renew(t, long(3*64)))
		for _, l := range []*life{appended, renewed} {
			if got := l.disk.Pending(); !slices.Equal(got, want) {
				t.Errorf("dead in act %d: %v is pending, not %v", dies, got, want)
			}
			wantActs(t, l, dies)
			l.check(t)
		}
	}
}

// A death just behind the last act of a call bears upon nothing.
func TestDeathBehindACall(t *testing.T) {
	for which := range ahead(t) {
		for _, call := range deeds(t) {
			acts := actsOf(t, which, call)
			if acts == 0 {
				continue
			}
			l := ahead(t)[which]
			l.arm(t, acts+1)
			wantErrno(t, api.OK, call(l))
			l.check(t)
			wantErrno(t, api.ErrDead, l.sync(t))
			l.check(t)
			l.crash(t)
			l.check(t)
			wantErrno(t, api.OK, l.asked(t), l.open(t))
			l.check(t)
		}
	}
}

// Calls that are refused do no act: they bring no death nearer.
func TestRefusedCallsDoNoAct(t *testing.T) {
	l := opened(t, 8, 3, 0, long(100))
	l.arm(t, 1)
	wantErrno(t, api.ErrJournalFull, l.append(t, long(89)), l.renew(t, long(191)), l.append(t, long(60000)))
	wantErrno(t, api.ErrJournalLong, l.append(t, long(60001)), l.renew(t, long(60001)))
	l.check(t)
	wantErrno(t, api.ErrDead, l.append(t, ""))
	l.check(t)
}

// A death in the middle of a record of many blocks, with some of them kept.
func TestDeathInAGreatRecord(t *testing.T) {
	x := numbers(1)
	for _, dies := range []int{1, 2, 500, 938, 939, 940, 941, 942} {
		for range 3 {
			l := opened(t, 4096, 3, dies%2, long(60000), "and more")
			l.arm(t, dies)
			wantErrno(t, api.ErrDead, l.append(t, long(60000)))
			l.check(t)
			wantAfterDeath(t, l, x.some(l.disk.Pending()))
		}
	}
}

// Death upon death: each Open finds what the one ahead of it found, until a call comes through.
func TestManyDeathsOfOneCall(t *testing.T) {
	for _, call := range deeds(t) {
		l := ahead(t)[1]
		acts := actsOf(t, 1, call)
		for dies := 1; dies <= acts; dies++ {
			for range 2 {
				l.arm(t, dies)
				wantErrno(t, api.ErrDead, call(l))
				l.crash(t, slices.DeleteFunc(l.disk.Pending(), func(n int) bool { return n == 0 })...)
				wantErrno(t, api.OK, l.open(t))
				wantRecords(t, l.journal, "old", long(57))
				wantNumbers(t, l.journal, 3, l.areaBytes()-66, l.areaBytes()-2)
			}
		}
		if acts > 0 {
			wantErrno(t, api.OK, call(l))
			l.check(t)
		}
	}
}
