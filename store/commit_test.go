package store_test

import (
	"fmt"
	"slices"
	"strings"
	"testing"

	"tinderbox/api"
	"tinderbox/journal"
)

// S4: which changes count

// All short rows of changes of two keys, on stores that have these and that do not.
func TestTheLastChangeCounts(t *testing.T) {
	changes := []string{"a/x=1", "a/x=2", "a/x", "b/y=", "b/y"}
	for _, had := range [][]string{nil, {"a/x=1"}, {"b/y="}, {"a/x=1", "b/y="}, {"a/x=2", "b/y=3", "c/z=4"}} {
		image := holding(t, 9, had...).disk.Image()
		var row func(past []string)
		row = func(past []string) {
			l := born(t, image)
			wantErrno(t, api.OK, l.open(t), l.commits(t, past...))
			l.check(t)
			wantErrno(t, api.OK, l.open(t))
			l.check(t)
			for _, s := range changes {
				if len(past) < 4 && !t.Failed() {
					row(append(slices.Clip(past), s))
				}
			}
		}
		row(nil)
	}
}

// wantCommit: these changes make this of a store with those pairs, by one record more; or by none, if that is empty.
func wantCommit(t *testing.T, had, changes []string, record string, pairs ...string) {
	t.Helper()
	l := holding(t, 64, had...)
	var records []string
	if len(had) > 0 {
		records = append(records, sayChanges(had...))
	}
	acts := l.disk.Acts()
	if record != "" {
		records = append(records, record)
		acts += 4
	}
	wantErrno(t, api.OK, l.commits(t, changes...))
	wantActs(t, l, acts)
	wantAll(t, l.store, pairs...)
	wantRecords(t, l.disk, records...)
	l.check(t)
}

func TestWhichChangesCount(t *testing.T) {
	two := []string{"a/x=1", "b/y=2"}
	wantCommit(t, nil, two, sayChanges(two...), two...)
	wantCommit(t, nil, []string{"b/y=2", "a/x=1"}, sayChanges(two...), two...)
	wantCommit(t, two, []string{"b/y", "a/x=3"}, "\x00\x01a\x01x\x01\x013\x01b\x01y\x00", "a/x=3")
	wantCommit(t, two, []string{"a/x", "b/y"}, "\x00\x01a\x01x\x00\x01b\x01y\x00")
	// Several changes of one key.
	wantCommit(t, two, []string{"a/x=3", "a/x=4", "a/x", "a/x=5"}, sayChanges("a/x=5"), "a/x=5", "b/y=2")
	wantCommit(t, two, []string{"a/x=3", "a/x"}, sayChanges("a/x"), "b/y=2")
	wantCommit(t, two, []string{"a/x", "a/x="}, sayChanges("a/x="), "a/x=", "b/y=2")
	wantCommit(t, two, []string{"c/z=1", "c/z", "c/z=2"}, sayChanges("c/z=2"), "a/x=1", "b/y=2", "c/z=2")
	// Some that change nothing, among others.
	wantCommit(t, two, []string{"c/z", "a/x=1", "b/y=3"}, sayChanges("b/y=3"), "a/x=1", "b/y=3")
	wantCommit(t, two, []string{"b/y", "a/x", "b/y=2"}, sayChanges("a/x"), "b/y=2")
	// And alone.
	for _, none := range [][]string{nil, {"a/x=1"}, {"c/z"}, {"b/y=2", "a/x=1"}, {"a/x", "a/x=1"}, {"a/x=2", "a/x=1"}, {"c/z=1", "c/z"}, {"a/y", "a/xx", "aa/x", "x/a"}, {"b/y", "c/z=", "c/z", "b/y=2"}} {
		wantCommit(t, two, none, "", two...)
	}
	wantCommit(t, nil, []string{"a/x"}, "")
	wantCommit(t, nil, []string{"a/x=", "a/x"}, "")
	wantCommit(t, nil, []string{"a/x="}, sayChanges("a/x="), "a/x=")
	wantCommit(t, []string{"a/x="}, []string{"a/x="}, "", "a/x=")
	wantCommit(t, []string{"a/x="}, []string{"a/x"}, sayChanges("a/x"))
}

// The last one of very many.
func TestVeryManyChanges(t *testing.T) {
	l := holding(t, 64, "a/x=1", "b/y=2")
	wantErrno(t, api.OK, l.begin(t))
	for n := range 3000 {
		wantErrno(t, api.OK, l.change(t, fmt.Sprintf("a/k%d=%d", n%1500, n)), l.change(t, fmt.Sprintf("c/k%d", n)), l.change(t, fmt.Sprint("b/y=", n)))
	}
	for n := range 1500 {
		wantErrno(t, api.OK, l.change(t, fmt.Sprintf("a/k%d", n)))
	}
	wantErrno(t, api.OK, l.commit(t))
	l.check(t)
	wantAll(t, l.store, "a/x=1", "b/y=2999")
	wantRecords(t, l.disk, sayChanges("a/x=1", "b/y=2"), sayChanges("b/y=2999"))
}

// S4: how many pairs

func TestHowManyPairs(t *testing.T) {
	all := many("t", 500, 3)
	for _, ahead := range []int{0, 1, 250, 499} {
		l := holding(t, 4096, all[:ahead]...)
		wantErrno(t, api.ErrStoreMany, l.commits(t, append(slices.Clip(all), "u/x=1")...))
		wantAll(t, l.store, all[:ahead]...)
		wantErrno(t, api.OK, l.commits(t, all[ahead:]...))
		wantAll(t, l.store, all...)
		l.check(t)
		acts := l.disk.Acts()
		wantErrno(t, api.ErrStoreMany, l.commits(t, "u/x=1"), l.commits(t, "s/x=1"), l.commits(t, "u/x=1", "s/x=1", "t/k000"))
		// What changes nothing is not counted, nor what goes that is not there.
		wantErrno(t, api.OK, l.commits(t, all...), l.commits(t, "u/x", "u/y=1", "u/y"))
		wantErrno(t, api.ErrStoreMany, l.commits(t, "u/x=1", "u/y", "u/z"))
		wantActs(t, l, acts)
		wantErrno(t, api.OK, l.commits(t, "t/k000=2"), l.commits(t, "u/x=1", "t/k001"), l.commits(t, "s/x=1", "s/y=2", "t/k002", "t/k003"))
		wantErrno(t, api.ErrStoreMany, l.commits(t, "v/x="))
		wantErrno(t, api.OK, l.commits(t, "s/x"), l.commits(t, "v/x="))
		wantErrno(t, api.ErrStoreMany, l.commits(t, "w/x="))
		l.check(t)
		wantErrno(t, api.OK, l.open(t))
		l.check(t)
		wantErrno(t, api.ErrStoreMany, l.commits(t, "w/x="))
	}
}

// All pairs go, and as many others come, at once; and many more, of which too many stay.
func TestAllAtOnce(t *testing.T) {
	ts, us := many("t", 500, 0), many("u", 501, 0)
	l := holding(t, 4096, ts...)
	wantErrno(t, api.ErrStoreMany, l.commits(t, slices.Concat(us, without(ts))...), l.commits(t, slices.Concat(without(ts[1:]), us[:500])...))
	wantAll(t, l.store, ts...)
	wantErrno(t, api.OK, l.commits(t, slices.Concat(us[:500], without(ts))...))
	wantAll(t, l.store, us[:500]...)
	wantRecords(t, l.disk, sayChanges(ts...), sayChanges(append(without(ts), us[:500]...)...))
	l.check(t)
	wantErrno(t, api.ErrStoreMany, l.commits(t, many("v", 999, 0)...))
	wantErrno(t, api.OK, l.commits(t, without(us[:500])...))
	wantAll(t, l.store)
	wantErrno(t, api.OK, l.open(t))
	l.check(t)
}

// S4: the room for records

// sized are pairs whose record has so many bytes, and each pair so many more than its texts: 1 in one of changes, 0 in one of the whole. Their words are as long as told, but those of the last one.
func sized(total, more, length int) []string {
	table, most := strings.Repeat("t", length), more+33+33+202
	var all []string
	rest := total - 1
	for rest > most {
		all = append(all, fmt.Sprintf("%s/%0*d=%s", table, max(4, length), len(all), long(190)))
		rest -= more + len(text(table)) + 1 + max(4, length) + len(text(long(190)))
	}
	for words := 2; words <= 64; words++ {
		last := strings.Repeat("z", words/2) + "/" + strings.Repeat("z", words-words/2) + "="
		if value := rest - more - 2 - words - 1; value >= 0 && value < 128 {
			return append(all, last+long(value))
		}
		if value := rest - more - 2 - words - 2; value >= 128 && value <= 200 {
			return append(all, last+long(value))
		}
	}
	panic("no pair has " + fmt.Sprint(rest))
}

// wantEnd: a Commit of these changes ends so, and leaves nothing begun; of a right one the last record is this.
func wantEnd(t *testing.T, l *life, changes []string, want api.Errno, record string) {
	t.Helper()
	pairs, acts := l.store.All(), l.disk.Acts()
	wantErrno(t, want, l.commits(t, changes...))
	l.check(t)
	if want != api.OK {
		wantPairs(t, l.store, pairs)
		wantActs(t, l, acts)
	} else {
		j, _ := journal.Open(l.disk)
		records, _ := j.Records()
		if records[len(records)-1] != record {
			t.Errorf("the record %.99q, not %.99q", records[len(records)-1], record)
		}
		if whole := record[0] == 1; whole != (len(records) == 1 && records[0][0] == 1) {
			t.Errorf("%d records", len(records))
		}
	}
	acts = l.disk.Acts()
	wantErrno(t, api.ErrStoreOpen, l.commit(t), l.abort(t))
	wantErrno(t, api.OK, l.begin(t), l.commit(t))
	wantActs(t, l, acts)
	l.check(t)
}

// Two pairs on an area of 192 bytes: the record of the second one's change has room or not, and that of both.
func TestRoomOfASmallDisk(t *testing.T) {
	ends := map[string]int{}
	for p := range 128 {
		for sum := 170; sum <= 184; sum++ {
			q := sum - p
			if q < 0 || q > 127 || p%9 > 0 && sum%3 > 0 {
				continue
			}
			one, two := "a/x="+long(p), "b/y="+long(q)
			l := holding(t, 8, one)
			// Of 190 bytes 2 + 7 + p are used; 7 + q are asked for; the whole has 1 + 5 + p + 5 + q.
			switch {
			case sum <= 174:
				wantEnd(t, l, []string{two}, api.OK, sayChanges(two))
				ends["append"]++
			case sum <= 179:
				wantEnd(t, l, []string{two}, api.OK, sayWhole(one, two))
				ends["renew"]++
			default:
				wantEnd(t, l, []string{two}, api.ErrJournalFull, "")
				ends["full"]++
				wantErrno(t, api.OK, l.commits(t, "a/x", two))
				l.check(t)
			}
		}
	}
	if ends["append"] < 50 || ends["renew"] < 50 || ends["full"] < 50 {
		t.Errorf("%v", ends)
	}
}

// Records of changes of every length, on stores whose journals have every room.
func TestEveryRoom(t *testing.T) {
	for used := 9; used <= 90; used += 9 {
		for total := 60; total <= 189; total++ {
			l := laid(t, 8)
			wantErrno(t, api.OK, l.commits(t, sized(used-2, 1, 1)...))
			changes := sized(total, 1, 1)
			l.commits(t, changes...)
			l.check(t)
			wantErrno(t, api.OK, l.open(t))
			l.check(t)
		}
	}
}

// As many bytes as an area has room for, where it has less than a record may have, and where it has more.
func TestRoomOfGreatDisks(t *testing.T) {
	for blocks, room := range map[int]int{1875: 59966, 1876: 59966, 1877: 60000, 4096: 60000} {
		wantEnd(t, laid(t, blocks), sized(room, 1, 1), api.OK, sayChanges(sized(room, 1, 1)...))
		wantEnd(t, laid(t, blocks), sized(room+1, 1, 1), api.OK, sayWhole(sized(room+1, 1, 1)...))
		wantEnd(t, laid(t, blocks), sized(room, 0, 1), api.OK, sayWhole(sized(room, 0, 1)...))
		wantEnd(t, laid(t, blocks), sized(room+1, 0, 1), api.ErrJournalFull, "")
		wantEnd(t, laid(t, blocks), sized(100000, 0, 32), api.ErrJournalFull, "")
		// Where there are pairs already, all of them count for the whole, and none of them for the changes.
		l := holding(t, blocks, "a/x=1")
		wantEnd(t, l, sized(room-6, 0, 1), api.OK, sayWhole(append([]string{"a/x=1"}, sized(room-6, 0, 1)...)...))
		wantErrno(t, api.OK, l.commits(t, without(sized(room-6, 0, 1))...))
		wantEnd(t, l, sized(room-5, 0, 1), api.ErrJournalFull, "")
		wantAll(t, l.store, "a/x=1")
	}
}

// other are such pairs of other tables, whose names are of this letter alone, rising.
func other(letter string, pairs []string) []string {
	var all []string
	for _, s := range pairs {
		at := strings.Index(s, "/")
		all = append(all, strings.Repeat(letter, at)+s[at:])
	}
	slices.SortFunc(all, func(a, b string) int { return order(parsed(a).pair, parsed(b).pair) })
	return all
}

// What is committed may have more bytes than a record: then it can't be renewed, but what has room is appended.
func TestMoreThanARecordMayHave(t *testing.T) {
	l := laid(t, 4096)
	one, two := sized(59000, 1, 32), other("u", sized(45000, 1, 32))
	wantEnd(t, l, one, api.OK, sayChanges(one...))
	wantEnd(t, l, two, api.OK, sayChanges(two...))
	for n := range 100 {
		value := "v/x=" + long(199+n%2)
		wantEnd(t, l, []string{value}, api.OK, sayChanges(value))
	}
	wantErrno(t, api.OK, l.open(t))
	room := l.journal.Room()
	wantEnd(t, l, other("w", sized(room+1, 1, 1)), api.ErrJournalFull, "")
	three := other("w", sized(room, 1, 1))
	wantEnd(t, l, three, api.OK, sayChanges(three...))
	wantErrno(t, api.OK, l.commits(t, one[0]))
	wantEnd(t, l, without(one)[:1], api.ErrJournalFull, "")
	// What goes makes room, as soon as all that stays has as many bytes as a record may have.
	whole := l.store.All()
	for _, gone := range []int{len(whole) / 3, len(whole) * 2 / 3} {
		wantErrno(t, api.OK, l.begin(t))
		for _, p := range whole[:gone] {
			wantErrno(t, api.OK, l.drop(t, p.Table, p.Key))
		}
		want := api.OK
		if len(recordOfWhole(whole[gone:])) > 60000 {
			want = api.ErrJournalFull
		}
		wantErrno(t, want, l.commit(t))
		l.check(t)
	}
	wantPairs(t, l.store, whole[len(whole)*2/3:])
	wantRecords(t, l.disk, recordOfWhole(whole[len(whole)*2/3:]))
	wantErrno(t, api.OK, l.open(t))
	l.check(t)
}

// Too many pairs stand ahead of no room.
func TestManyAheadOfFull(t *testing.T) {
	l := holding(t, 64, many("t", 150, 0)...)
	wantEnd(t, l, many("u", 350, 0), api.ErrJournalFull, "")
	wantEnd(t, l, many("u", 351, 0), api.ErrStoreMany, "")
	wantEnd(t, l, many("u", 501, 200), api.ErrStoreMany, "")
	wantEnd(t, l, many("u", 350, 200), api.ErrJournalFull, "")
	wantEnd(t, l, []string{"t/k000"}, api.OK, sayChanges("t/k000"))
}

// The end of the generation: by an Append, and by a Renew.
func TestWorn(t *testing.T) {
	for _, last := range []string{"b/y=2", "b/y=" + long(160)} {
		l := born(t, aged(imageWith(t, 8, sayChanges("a/x=123456")), 1<<62-1))
		wantErrno(t, api.OK, l.open(t), l.commits(t, last))
		l.check(t)
		wantAll(t, l.store, "a/x=123456", last)
		for range 2 {
			wantEnd(t, l, []string{"a/x"}, api.ErrJournalWorn, "")
			wantEnd(t, l, []string{"a/x=" + long(120), "b/y=1"}, api.ErrJournalWorn, "")
			// What has no room, or changes nothing, asks for no number.
			wantEnd(t, l, []string{"a/x=" + long(120), "b/y=" + long(120)}, api.ErrJournalFull, "")
			wantEnd(t, l, many("u", 499, 0), api.ErrStoreMany, "")
			acts := l.disk.Acts()
			wantErrno(t, api.OK, l.commits(t, last, "c/z"))
			wantActs(t, l, acts)
			wantErrno(t, api.OK, l.open(t))
			l.check(t)
		}
		wantErrno(t, api.OK, l.format(t), l.commits(t, "c/z=3"))
		wantAll(t, l.store, "c/z=3")
		l.check(t)
	}
}

// However a Commit ends, its changes are forgotten: the next one has its own alone.
func TestCommitForgets(t *testing.T) {
	l := holding(t, 8, "a/x=1")
	for _, changes := range [][]string{{"b/y=2"}, {"b/y=2"}, nil, {"c/z"}, many("u", 500, 0), {"d/x=" + long(150), "d/y=" + long(150)}} {
		l.commits(t, changes...)
		wantErrno(t, api.ErrStoreOpen, l.commit(t))
		wantErrno(t, api.OK, l.commits(t, "a/x=2"))
		wantAll(t, l.store, "a/x=2", "b/y=2")
		wantErrno(t, api.OK, l.commits(t, "a/x=1"))
		l.check(t)
	}
	// With ErrStoreOpen nothing ends: there is nothing begun.
	wantErrno(t, api.ErrStoreOpen, l.commit(t))
	wantErrno(t, api.OK, l.begin(t), l.change(t, "a/x=3"))
	wantErrno(t, api.ErrStoreOpen, l.begin(t))
	wantErrno(t, api.OK, l.commit(t))
	wantAll(t, l.store, "a/x=3", "b/y=2")
	l.check(t)
}

// An area that is filled again and again.
func TestManyCommits(t *testing.T) {
	for blocks := 8; blocks <= 11; blocks++ {
		l := laid(t, blocks)
		for n := range 300 {
			wantErrno(t, api.OK, l.commits(t, fmt.Sprintf("a/k%d=%s", n%4, long(n%17)), fmt.Sprintf("b/k%d", n%3), fmt.Sprintf("b/k%d=%d", (n+1)%3, n)))
			l.check(t)
			if n%7 == 0 {
				wantErrno(t, api.OK, l.open(t))
				l.check(t)
			}
		}
	}
}
