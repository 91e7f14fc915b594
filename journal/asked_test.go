package journal_test

import (
	"testing"

	"tinderbox/api"
	"tinderbox/journal"
)

// J6, R4

// Records, Gen, Room and Bare of journals of every size that live.
func TestAskedOfEverySize(t *testing.T) {
	for _, blocks := range []int{8, 9, 10, 11, 100, 101, 937, 938, 1874, 1879, 4094, 4095, 4096} {
		for area := range 2 {
			bytes := (blocks - 1) / 2 * 64
			most := min(bytes-2, 60000)
			for _, records := range [][]string{nil, {""}, {"a"}, {"", "", ""}, {long(most)}, {long(60), "", long(most - 100)}, {"", long(min(most, bytes-4))}} {
				l := opened(t, blocks, 12, area, records...)
				left := bytes - len(bytesOf(records...))
				wantRecords(t, l.journal, records...)
				wantNumbers(t, l.journal, 12, max(-1, min(left-2, 60000)), most)
			}
		}
	}
}

// Where fewer bytes are left than a record of none takes, none has room.
func TestRoomNearTheEnd(t *testing.T) {
	for _, blocks := range []int{8, 9, 400} {
		bytes := (blocks - 1) / 2 * 64
		for left, room := range []int{-1, -1, 0, 1, 2, 3} {
			l := opened(t, blocks, 3, 1, long(bytes-2-left))
			wantNumbers(t, l.journal, 3, room, bytes-2)
			l.check(t)
		}
	}
}

// A number that is not left is not asked for.
func TestAskedOfOneThatIsWorn(t *testing.T) {
	l := opened(t, 8, 1<<62, 0, "ab", "")
	wantNumbers(t, l.journal, 1<<62, 184, 190)
	wantRecords(t, l.journal, "ab", "")
}

// What is asked changes nothing, and is told as often as one likes.
func TestAskedAgain(t *testing.T) {
	l := opened(t, 8, 5, 0, "ab", "", long(30))
	l.arm(t, 1)
	for range 3 {
		wantRecords(t, l.journal, "ab", "", long(30))
		wantNumbers(t, l.journal, 5, 192-38-2, 190)
	}
	wantActs(t, l, 0)
	l.check(t)
}

// Of a disk that is dead Gen, Room and Bare tell nothing, and put nothing in doubt: it goes on behind a Crash.
func TestNumbersPutNothingInDoubt(t *testing.T) {
	l := opened(t, 8, 5, 0, "ab")
	for round := range 4 {
		l.kill(t)
		for range 3 {
			wantNumbers(t, l.journal, -1, -1, -1)
		}
		l.check(t)
		l.crash(t)
		l.check(t)
		wantErrno(t, api.OK, l.asked(t), l.append(t, "c"))
		wantNumbers(t, l.journal, 6+round, 192-4-3*(round+1)-2, 190)
		l.check(t)
	}
}

// Nor does what is refused for what it is given alone, nor another journal's being opened or laid down.
func TestWhatPutsNothingInDoubt(t *testing.T) {
	for _, call := range []func(*life) api.Errno{
		func(l *life) api.Errno { return l.append(t, long(60001)) },
		func(l *life) api.Errno { return l.renew(t, long(60001)) },
		func(l *life) api.Errno { _, e := journal.Open(l.disk); return e },
		func(l *life) api.Errno { _, e := journal.Format(l.disk); return e },
		func(l *life) api.Errno { return l.disk.Arm(1) },
	} {
		l := opened(t, 8, 5, 0, "ab")
		l.kill(t)
		if e := call(l); e == api.OK {
			t.Error("it was answered of a dead disk")
		}
		l.crash(t)
		l.check(t)
		wantErrno(t, api.OK, l.append(t, "c"), l.asked(t))
		wantRecords(t, l.journal, "ab", "c")
	}
}

// Each call that answers ErrDead puts it in doubt, though the disk died by somebody else's act, and nothing was lost.
func TestWhatPutsInDoubt(t *testing.T) {
	for _, call := range []func(*life) api.Errno{
		func(l *life) api.Errno { return l.asked(t) },
		func(l *life) api.Errno { return l.append(t, "") },
		func(l *life) api.Errno { return l.append(t, long(60000)) },
		func(l *life) api.Errno { return l.renew(t, "") },
		func(l *life) api.Errno { return l.renew(t, long(60000)) },
	} {
		for _, gen := range []int{5, 1 << 62} {
			l := opened(t, 8, gen, 0, "ab")
			l.kill(t)
			wantErrno(t, api.ErrDead, call(l))
			wantDoubt(t, l.journal)
			l.crash(t)
			for range 2 {
				wantDoubt(t, l.journal)
				l.check(t)
				l.crash(t)
			}
			wantActs(t, l, 1)
			old := l.journal
			wantErrno(t, api.OK, l.open(t))
			wantRecords(t, l.journal, "ab")
			wantDoubt(t, old)
			l.check(t)
		}
	}
}

// A disk that lives and crashes, with nothing pending, takes nothing away, and puts nothing in doubt.
func TestCrashOfADiskThatLives(t *testing.T) {
	l := begun(t, 8)
	for range 5 {
		l.crash(t)
		wantErrno(t, api.OK, l.append(t, "a"), l.asked(t))
		l.crash(t)
		wantErrno(t, api.OK, l.renew(t, "b"), l.asked(t))
		l.check(t)
	}
	wantRecords(t, l.journal, "b")
}

// The Way: a call that does not come to its end leaves its journal in doubt. No call of one that was opened ever does; one without a disk shows what becomes of it.
func TestCallsThatDoNotComeToTheirEnd(t *testing.T) {
	for _, call := range []func(*journal.Journal){
		func(j *journal.Journal) { j.Append("a") },
		func(j *journal.Journal) { j.Renew("a") },
		func(j *journal.Journal) { j.Records() },
	} {
		var j journal.Journal
		if !broken(func() { call(&j) }) {
			t.Error("it came to its end without a disk")
		}
		wantDoubt(t, &j)
	}
}

// broken: did a call not come to its end?
func broken(call func()) (yes bool) {
	defer func() { yes = recover() != nil }()
	call()
	return false
}

// Where somebody else writes to its disk, or puts another one in its place, nothing is promised but that each call ends, and none panics.
func TestSomebodyElseWritesToItsDisk(t *testing.T) {
	x := numbers(6)
	for range 300 {
		l := opened(t, 8+x.next()%40, 5, x.next()%2, "ab", "", long(x.next()%150), "z")
		for range 20 {
			switch x.next() % 4 {
			case 0:
				l.disk.Write(x.next()%l.disk.Size(), stripes(400)[x.next()%400])
			case 1:
				l.disk.Write(x.next()%l.disk.Size(), noughts(1)[0])
			case 2:
				*l.disk = *born(t, stripes(8+x.next()%40)).disk
			}
			if broken(func() {
				l.journal.Records()
				l.journal.Gen()
				l.journal.Room()
				l.journal.Bare()
				l.journal.Append(long(x.next() % 300))
				l.journal.Renew(long(x.next() % 300))
				journal.Open(l.disk)
			}) {
				t.Fatal("it panics")
			}
		}
	}
}
