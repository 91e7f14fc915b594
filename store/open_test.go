package store_test

import (
	"fmt"
	"slices"
	"strings"
	"testing"

	"tinderbox/api"
	"tinderbox/disk"
	"tinderbox/journal"
	"tinderbox/store"
)

// S1: Format

func TestFormat(t *testing.T) {
	for _, blocks := range []int{8, 9, 64, 4096} {
		l := laid(t, blocks)
		wantAll(t, l.store)
		wantRecords(t, l.disk)
		wantActs(t, l, 2)
		wantErrno(t, api.ErrStoreOpen, l.commit(t), l.abort(t), l.put(t, api.Pair{Table: "a", Key: "x"}), l.drop(t, "a", "x"))
		wantErrno(t, api.OK, l.open(t), l.begin(t))
		l.check(t)
	}
}

// What stood there ahead of it is gone.
func TestFormatOfWhatIsThere(t *testing.T) {
	l := holding(t, 9, "a/x=1", "b/y=2")
	wantErrno(t, api.OK, l.format(t))
	l.check(t)
	wantAll(t, l.store)
	wantNone(t, l.store, "a", "x")
	wantRecords(t, l.disk)
	wantErrno(t, api.OK, l.commits(t, "c/z=3"))
	wantAll(t, l.store, "c/z=3")
	wantErrno(t, api.OK, l.open(t))
	l.check(t)
}

func TestNoDisk(t *testing.T) {
	for _, call := range []func(*disk.Disk) (*store.Store, api.Errno){store.Format, store.Open} {
		if s, e := call(nil); s != nil || e != api.ErrArg {
			t.Errorf("of no disk: %d", e)
		}
	}
}

// Of a dead disk there is none; another store of that disk is not in doubt by that.
func TestDeadDisk(t *testing.T) {
	for _, call := range []func(*life) api.Errno{
		func(l *life) api.Errno { return l.format(t) },
		func(l *life) api.Errno { return l.open(t) },
	} {
		l := holding(t, 8, "a/x=1")
		l.kill(t)
		for range 2 {
			wantErrno(t, api.ErrDead, call(l))
			l.check(t)
		}
		wantActs(t, l, 7)
		l.crash(t)
		l.check(t)
		wantAll(t, l.store, "a/x=1")
		wantErrno(t, api.OK, l.commits(t, "b/y=2"))
		l.check(t)

		blank := born(t, noughts(8))
		blank.kill(t)
		wantErrno(t, api.ErrDead, call(blank))
		blank.check(t)
	}
}

// A death at each act of a Format, with each set of pending blocks kept: no store, or what stood there, or no pairs.
func TestFormatThatDies(t *testing.T) {
	found := map[string]int{}
	for _, blank := range []bool{true, false} {
		for dies := 1; dies <= 2; dies++ {
			for _, keep := range [][]int{nil, {0}} {
				l := born(t, noughts(9))
				if !blank {
					l = holding(t, 9, "a/x=1", "b/y=2")
				}
				acts := l.disk.Acts()
				l.arm(t, dies)
				wantErrno(t, api.ErrDead, l.format(t), l.format(t), l.open(t))
				wantActs(t, l, acts+dies)
				l.check(t)
				l.crash(t, keep...)
				if blank && len(keep) == 0 {
					wantErrno(t, api.ErrStoreImage, l.open(t))
					found["none"]++
				} else {
					wantErrno(t, api.OK, l.open(t))
					found[fmt.Sprint(l.store.All())]++
				}
				l.check(t)
				wantErrno(t, api.OK, l.format(t), l.commits(t, "c/z=3"))
				l.check(t)
			}
		}
	}
	if found["none"] != 2 || found["[]"] != 4 || found["[{a x 1} {b y 2}]"] != 2 {
		t.Errorf("%v", found)
	}
}

// S1: Open

func TestOpenOfNoJournal(t *testing.T) {
	right := imageWith(t, 9, sayChanges("a/x=1"))
	for n := range 64 {
		image := slices.Clone(right)
		image[0] = image[0][:n] + string([]byte{image[0][n] + 99}) + image[0][n+1:]
		l := born(t, image)
		e := l.open(t)
		l.check(t)
		if generation := n >= 5 && n < 12; generation != (e == api.OK) {
			t.Errorf("byte %d of the head: %d", n, e)
		}
	}
	wantErrno(t, api.ErrStoreImage, born(t, noughts(8)).open(t))
}

// wantOpened: on a disk with these records there are these pairs; or, of no pair `refused`, no store.
func wantOpened(t *testing.T, records []string, pairs ...string) {
	t.Helper()
	bytes := 0
	for _, record := range records {
		bytes += 2 + len(record)
	}
	l := born(t, imageWith(t, 9+bytes/64*2, records...))
	l.arm(t, 1)
	want := api.OK
	if slices.Equal(pairs, refused) {
		want = api.ErrStoreImage
	}
	if e := l.open(t); e != want {
		t.Errorf("%.99q: %d, not %d", records, e, want)
	}
	if want == api.OK && l.store != nil {
		wantAll(t, l.store, pairs...)
	}
	l.check(t)
	wantActs(t, l, 0)
}

var refused = []string{"refused"}

func TestOpenOfRightRecords(t *testing.T) {
	wantOpened(t, nil)
	wantOpened(t, []string{"\x01"})
	wantOpened(t, []string{"\x00\x01a\x01x\x01\x011"}, "a/x=1")
	wantOpened(t, []string{"\x01\x01a\x01x\x011"}, "a/x=1")
	wantOpened(t, []string{"\x00\x01a\x01x\x01\x00"}, "a/x=")
	wantOpened(t, []string{"\x01\x01a\x01x\x00"}, "a/x=")
	wantOpened(t, []string{"\x01\x01a\x01x\x011", "\x00\x01a\x01x\x00"})
	wantOpened(t, []string{"\x01", "\x00\x01a\x01x\x01\x011"}, "a/x=1")
	wantOpened(t, []string{sayChanges("a/x=1", "a/y=2"), sayChanges("a/x=3", "a/y", "b/z=4"), sayChanges("a/x=1", "a/y=2")}, "a/x=1", "a/y=2", "b/z=4")
	wantOpened(t, []string{sayChanges("a/x=1"), sayChanges("a/x"), sayChanges("a/x=1"), sayChanges("a/x=2"), sayChanges("a/x=1")}, "a/x=1")
	wantOpened(t, []string{sayWhole("-/-=a", "-/.=b", "./-=c", "0/_=d", "9/9=e", "_/z=f", "a/0=g", "a-/0=h", "a0/0=i", "aa/0=j", "z/zz=k"), sayChanges("a/x=1")},
		"-/-=a", "-/.=b", "./-=c", "0/_=d", "9/9=e", "_/z=f", "a/0=g", "a/x=1", "a-/0=h", "a0/0=i", "aa/0=j", "z/zz=k")
}

// The first place: 0 and 1 alone, in the shortest rows, and what must stand behind each of them.
func TestOpenByTheFirstPlace(t *testing.T) {
	wantOpened(t, []string{""}, refused...)
	wantOpened(t, []string{"\x00"}, refused...)
	for n := 2; n < 256; n++ {
		for _, behind := range []string{"", "\x01a\x01x\x011", "\x01a\x01x\x01\x011"} {
			wantOpened(t, []string{row(n) + behind}, refused...)
			wantOpened(t, []string{string([]byte{byte(n)}) + behind}, refused...)
		}
	}
	for _, first := range []string{"\x80\x00", "\x81\x00", "\x80\x80\x00", row(1 << 32), row(1 << 62), row(1<<62 + 1), "\x80\x80\x80\x80\x80\x80\x80\x80\x80\x00", strings.Repeat("\xff", 20)} {
		for _, behind := range []string{"", "\x01a\x01x\x011", "\x01a\x01x\x01\x011"} {
			wantOpened(t, []string{first + behind}, refused...)
		}
	}
}

// Of changes there is at least one; one that says the whole is the first one.
func TestOpenByWhichRecord(t *testing.T) {
	one, two := sayChanges("a/x=1"), sayChanges("b/y=2")
	wantOpened(t, []string{"\x00", one}, refused...)
	wantOpened(t, []string{one, "\x00"}, refused...)
	wantOpened(t, []string{one, "\x00", two}, refused...)
	wantOpened(t, []string{one, ""}, refused...)
	wantOpened(t, []string{"", one}, refused...)
	for _, whole := range []string{"\x01", sayWhole("b/y=2"), sayWhole("a/x=1"), sayWhole("a/x=1", "b/y=2")} {
		wantOpened(t, []string{one, whole}, refused...)
		wantOpened(t, []string{whole, whole}, refused...)
		wantOpened(t, []string{sayChanges("c/z="), one, whole}, refused...)
		wantOpened(t, []string{whole, sayChanges("c/z="), whole}, refused...)
	}
	wantOpened(t, []string{sayWhole("a/x=1"), two}, "a/x=1", "b/y=2")
	wantOpened(t, []string{one, two, "\x02"}, refused...)
	wantOpened(t, []string{one, two, sayChanges("c/z=3") + "\x00"}, refused...)
	wantOpened(t, []string{one + "\x00", two}, refused...)
}

// Bytes that are left, and bytes that are missing.
func TestOpenByTheEnd(t *testing.T) {
	for _, right := range []string{"\x00\x01a\x01x\x01\x011", "\x00\x02ab\x03xyz\x01\x00", "\x01\x01a\x01x\x011", sayWhole("a/x=1", "b/y=22"), sayChanges("a/x=1", "b/y=22")} {
		for length := range len(right) {
			if s := right[:length]; s != "\x01" && s != sayWhole("a/x=1") && s != sayChanges("a/x=1") {
				wantOpened(t, []string{s}, refused...)
			}
		}
		for b := range 256 {
			wantOpened(t, []string{right + string([]byte{byte(b)})}, refused...)
		}
		wantOpened(t, []string{right + right}, refused...)
		wantOpened(t, []string{right + "\x01z\x01z"}, refused...)
	}
	wantOpened(t, []string{sayChanges("a/x=1"), "\x00\x01a\x01x\x00\x00"}, refused...)
	wantOpened(t, []string{sayChanges("a/x=1"), "\x00\x01a\x01x\x00\x011"}, refused...)
	wantOpened(t, []string{sayChanges("a/x=1"), "\x00\x01a\x01x"}, refused...)
}

// Words of 0, 32 and 33 bytes, and of all letters.
func TestOpenByWords(t *testing.T) {
	for _, length := range []int{0, 1, 2, 31, 32, 33, 34, 127, 128, 200, 300} {
		word := strings.Repeat("w", length)
		for _, at := range []string{word + "/x", "a/" + word, word + "/" + word} {
			want := []string{at + "=1"}
			if length < 1 || length > 32 {
				want = refused
			}
			wantOpened(t, []string{sayChanges(at + "=1")}, want...)
			wantOpened(t, []string{sayWhole(at + "=1")}, want...)
			if length < 1 || length > 32 {
				wantOpened(t, []string{sayChanges("a/x=1"), sayChanges(at)}, refused...)
			}
		}
	}
	for b := range 256 {
		letter := string([]byte{byte(b)})
		for _, word := range []string{letter, "a" + letter, letter + "a"} {
			for _, p := range []api.Pair{{Table: word, Key: "x", Value: "1"}, {Table: "a", Key: word, Value: "1"}} {
				for _, record := range []string{recordOfChanges([]change{{pair: p}}), recordOfWhole([]api.Pair{p})} {
					l := born(t, imageWith(t, 8, record))
					want := api.OK
					if !strings.Contains("abcdefghijklmnopqrstuvwxyz0123456789-_.", letter) {
						want = api.ErrStoreImage
					}
					wantErrno(t, want, l.open(t))
				}
			}
		}
	}
}

func TestOpenByValues(t *testing.T) {
	for _, length := range []int{0, 1, 127, 128, 199, 200, 201, 202, 255, 256, 300, 1000} {
		want := []string{"a/x=" + long(length)}
		if length > 200 {
			want = refused
		}
		wantOpened(t, []string{sayChanges("a/x=" + long(length))}, want...)
		wantOpened(t, []string{sayWhole("a/x=" + long(length))}, want...)
	}
	for b := range 256 {
		letter := string([]byte{byte(b)})
		wantOpened(t, []string{sayChanges("a/x=" + letter)}, "a/x="+letter)
		wantOpened(t, []string{sayWhole("a/x=" + letter + letter)}, "a/x="+letter+letter)
	}
}

// The number behind a key.
func TestOpenByWhatBecomesOfAKey(t *testing.T) {
	for n := range 300 {
		for _, behind := range []string{"", "\x00", "\x011", "\x012"} {
			record := "\x00\x01a\x01x" + row(n) + behind
			switch {
			case n == 0 && behind == "":
				wantOpened(t, []string{sayChanges("a/x=1"), record})
				wantOpened(t, []string{sayChanges("a/x=1", "a/y=1"), record}, "a/y=1")
			case n == 1 && (behind == "\x00" || behind == "\x012"):
				wantOpened(t, []string{sayChanges("a/x=1"), record}, "a/x="+behind[1:])
			default:
				wantOpened(t, []string{sayChanges("a/x=1"), record}, refused...)
			}
		}
	}
	for _, long := range []string{"\x80\x00", "\x81\x00\x012", "\x81\x80\x00\x012", "\xff"} {
		wantOpened(t, []string{sayChanges("a/x=1"), "\x00\x01a\x01x" + long}, refused...)
	}
	// Of the whole there is none.
	wantOpened(t, []string{"\x01\x01a\x01x\x01\x011"}, refused...)
	wantOpened(t, []string{"\x00\x01a\x01x\x011"}, refused...)
}

// Pairs that fall, and that stand twice.
func TestOpenByTheOrder(t *testing.T) {
	places := []string{"-/x", "a/0", "a/00", "a/x", "a/x.", "a-/0", "a-/x", "a0/0", "aa/0", "b/-", "b/x"}
	for i, one := range places {
		for k, two := range places {
			want, gone := []string{one + "=1", two + "=2"}, []string{"z/z=3"}
			if i >= k {
				want, gone = refused, refused
			}
			wantOpened(t, []string{sayChanges(one+"=1", two+"=2")}, want...)
			wantOpened(t, []string{sayWhole(one+"=1", two+"=2")}, want...)
			if i != k {
				wantOpened(t, []string{sayChanges(places[min(i, k)]+"=1", places[max(i, k)]+"=2", "z/z=3"), sayChanges(one, two)}, gone...)
			}
		}
	}
	for _, record := range []string{sayChanges("a/x=1", "a/x=1"), sayChanges("a/x=1", "a/x"), sayChanges("a/x", "a/x=1"), sayWhole("a/x=1", "a/x=1")} {
		wantOpened(t, []string{record}, refused...)
	}
	for _, record := range []string{sayChanges("a/x=2", "a/x=3"), sayChanges("a/x=2", "a/x"), sayChanges("a/x", "a/x=2"), sayChanges("a/x", "a/x"), sayChanges("a/w=1", "a/x=2", "a/w=3")} {
		wantOpened(t, []string{sayChanges("a/x=1"), record}, refused...)
	}
}

// Changes that change nothing of what the records ahead of them say.
func TestOpenByWhatIsChanged(t *testing.T) {
	ahead := [][]string{{sayChanges("a/x=1", "b/y=")}, {sayWhole("a/x=1", "b/y=")}, {"\x01", sayChanges("a/x=2", "b/y="), sayChanges("a/x=1")}, {sayChanges("a/x=1", "a/z=1", "b/y="), sayChanges("a/z")}}
	for _, records := range ahead {
		for _, record := range []string{sayChanges("a/x=1"), sayChanges("b/y="), sayChanges("a/z"), sayChanges("c/z"), sayChanges("a/x=2", "a/z"), sayChanges("a/x", "b/y="), sayChanges("a/w=1", "a/x=1"), sayChanges("a/x=1", "b/y=2")} {
			wantOpened(t, append(slices.Clip(records), record), refused...)
		}
		wantOpened(t, append(slices.Clip(records), sayChanges("a/x=2", "b/y")), "a/x=2")
		wantOpened(t, append(slices.Clip(records), sayChanges("a/x", "b/y=1")), "b/y=1")
		wantOpened(t, append(slices.Clip(records), sayChanges("a/x"), sayChanges("a/x=1")), "a/x=1", "b/y=")
		wantOpened(t, append(slices.Clip(records), sayChanges("a/x"), sayChanges("a/x")), refused...)
	}
	wantOpened(t, []string{sayChanges("a/x")}, refused...)
	wantOpened(t, []string{"\x01", sayChanges("a/x")}, refused...)
}

// 500 and 501 pairs, by one record and by several.
func TestOpenByHowManyPairs(t *testing.T) {
	all := many("t", 500, 1)
	wantOpened(t, []string{sayWhole(all...)}, all...)
	wantOpened(t, []string{sayChanges(all...)}, all...)
	more := append(slices.Clip(all), "u/x=1")
	wantOpened(t, []string{sayWhole(more...)}, refused...)
	wantOpened(t, []string{sayChanges(more...)}, refused...)
	wantOpened(t, []string{sayWhole(append(slices.Clip(all), many("u", 400, 1)...)...)}, refused...)
	for _, first := range []string{sayWhole(all...), sayChanges(all...)} {
		wantOpened(t, []string{first, sayChanges("u/x=1")}, refused...)
		// Also if a record behind it takes one away.
		wantOpened(t, []string{first, sayChanges("u/x=1"), sayChanges("t/k000")}, refused...)
		wantOpened(t, []string{first, sayChanges("t/k000"), sayChanges("u/x=1")}, more[1:]...)
		// Behind the record there are 500, though on its way there were more.
		wantOpened(t, []string{first, sayChanges("s/x=1", "s/y=2", "t/k000", "t/k001")}, append([]string{"s/x=1", "s/y=2"}, all[2:]...)...)
		wantOpened(t, []string{first, sayChanges("s/x=1", "s/y=2", "t/k000")}, refused...)
		wantOpened(t, []string{first, sayChanges("t/k000=2")}, append([]string{"t/k000=2"}, all[1:]...)...)
	}
	// A record of changes has a thousand of them.
	gone, come := without(all), many("u", 500, 1)
	wantOpened(t, []string{sayWhole(all...), sayChanges(append(gone, come...)...)}, come...)
	wantOpened(t, []string{sayWhole(all...), sayChanges(append(gone[1:], come...)...)}, refused...)
	wantOpened(t, []string{sayWhole(all...), sayChanges(gone...)})
}

// Each byte of right records, as each other one; each byte taken away; each byte put in: held against the words.
func TestOpenOfWhatIsNearlyRight(t *testing.T) {
	right, changed := 0, 0
	for _, records := range [][]string{
		{sayChanges("a/x=1", "b/y=22")},
		{sayWhole("a/x=1", "b/y=22"), sayChanges("a/x", "b/y=2", "c/z=")},
		{sayChanges("ab/x=", "ab/y=1"), sayChanges("ab/x=1", "ab/y")},
		{"\x01", sayChanges("a/" + long(32)[:31] + "=" + long(200))},
	} {
		for at, record := range records {
			for i := range len(record) + 1 {
				if i < len(record) {
					wantAsSaid(t, &right, replaced(records, at, record[:i]+record[i+1:]))
				}
				for b := range 256 {
					letter := string([]byte{byte(b)})
					wantAsSaid(t, &right, replaced(records, at, record[:i]+letter+record[i:]))
					if i < len(record) {
						wantAsSaid(t, &right, replaced(records, at, record[:i]+letter+record[i+1:]))
					}
					changed++
				}
			}
		}
	}
	if right < 1000 || changed < 20000 {
		t.Errorf("%d right, of %d places", right, changed)
	}
}

func replaced(records []string, at int, record string) []string {
	records = slices.Clone(records)
	records[at] = record
	return records
}

// wantAsSaid: what Open answers of records is what the words say.
func wantAsSaid(t *testing.T, right *int, records []string) {
	t.Helper()
	d, _ := disk.New(40)
	j, _ := journal.Format(d)
	for _, s := range records {
		wantErrno(t, api.OK, j.Append(s))
	}
	pairs, ok := said(records)
	s, e := store.Open(d)
	if ok != (e == api.OK) || ok != (s != nil) || !ok && e != api.ErrStoreImage {
		t.Fatalf("%q: %d; right: %t", records, e, ok)
	}
	if ok {
		wantPairs(t, s, pairs)
		*right++
	}
}

// Records by chance, of few tables, keys and values.
func TestOpenOfRandomRecords(t *testing.T) {
	x := numbers(1)
	right, wrong := 0, 0
	for range 20000 {
		var records []string
		for range 1 + x.next()%4 {
			records = append(records, x.record())
		}
		wantAsSaid(t, &right, records)
		wrong++
	}
	if wrong -= right; right < 1000 || wrong < 1000 {
		t.Errorf("%d right, %d wrong", right, wrong)
	}
}

// record says some changes, which rise mostly; or, at times, the whole, or anything.
func (x *numbers) record() string {
	var all []string
	for _, at := range []string{"a/x", "a/y", "b/x"} {
		switch x.next() % 4 {
		case 0:
			all = append(all, at)
		case 1:
			all = append(all, at+pick(x, []string{"=", "=1", "=2"}))
		}
	}
	if x.next()%9 == 0 {
		slices.Reverse(all)
	}
	switch x.next() % 12 {
	case 0:
		return sayWhole(slices.DeleteFunc(all, func(s string) bool { return !strings.Contains(s, "=") })...)
	case 1:
		b := make([]byte, x.next()%9)
		for i := range b {
			b[i] = pick(x, []byte{0, 1, 'a', 'x', 2, byte(x.next())})
		}
		return string(b)
	}
	return sayChanges(all...)
}

// Open does no act, and what is opened is found again and again.
func TestOpenAgain(t *testing.T) {
	l := holding(t, 64, "a/x=1", "b/y=2")
	for n := range 20 {
		wantErrno(t, api.OK, l.commits(t, fmt.Sprintf("c/k%d=%s", n%7, long(n))))
		acts := l.disk.Acts()
		for range 3 {
			wantErrno(t, api.OK, l.open(t))
			l.check(t)
		}
		wantActs(t, l, acts)
	}
}

// Blocks are read as they were written last, be they pending or not.
func TestOpenOfWhatIsPending(t *testing.T) {
	image := imageWith(t, 9, sayChanges("a/x=1"))
	l := born(t, noughts(9))
	for _, n := range []int{1, 0} {
		l.told(t, "Write", l.disk.Write(n, image[n]), l.twin.Write(n, image[n]))
	}
	wantErrno(t, api.OK, l.open(t))
	wantAll(t, l.store, "a/x=1")
	l.check(t)
	l.crash(t, 0, 1)
	wantErrno(t, api.OK, l.commits(t, "a/x"))
	l.check(t)
}
