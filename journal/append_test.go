package journal_test

import (
	"slices"
	"strings"
	"testing"

	"tinderbox/api"
)

// The chapter's examples

func TestExamples(t *testing.T) {
	l := born(t, noughts(8))
	wantErrno(t, api.OK, l.format(t))
	wantRecords(t, l.journal)
	wantNumbers(t, l.journal, 0, 190, 190)
	wantActs(t, l, 2)
	wantErrno(t, api.OK, l.append(t, "ab"))
	wantActs(t, l, 6)
	wantBlock(t, l, 1, "\x00\x02ab")
	wantNumbers(t, l.journal, 1, 186, 190)
	wantErrno(t, api.ErrJournalFull, l.append(t, long(187)))
	wantErrno(t, api.OK, l.append(t, long(60)))
	wantNumbers(t, l.journal, 2, 124, 190)
	wantBlock(t, l, 1, "\x00\x02ab\x00\x3c"+long(60)[:58])
	wantBlock(t, l, 2, long(60)[58:])
	l.check(t)

	wantErrno(t, api.OK, l.renew(t, "z"))
	wantBlock(t, l, 4, "\x00\x01z")
	wantBlock(t, l, 0, "TJ01\x00\x00\x00\x00\x00\x00\x00\x03\x01\x00\x00\x00\x03")
	wantRecords(t, l.journal, "z")
	wantNumbers(t, l.journal, 3, 187, 190)
	wantErrno(t, api.OK, l.append(t, long(187)))
	wantNumbers(t, l.journal, 4, -1, 190)
	wantErrno(t, api.ErrJournalFull, l.append(t, ""))
	wantErrno(t, api.OK, l.renew(t, ""))
	wantBlock(t, l, 0, "TJ01\x00\x00\x00\x00\x00\x00\x00\x05\x00\x00\x00\x00\x02")
	wantNumbers(t, l.journal, 5, 188, 190)
	l.check(t)

	wantErrno(t, api.ErrJournalImage, born(t, noughts(8)).open(t))
	for _, keep := range subsets([]int{0}) {
		l := begun(t, 8)
		l.arm(t, 4)
		wantErrno(t, api.ErrDead, l.append(t, "ab"))
		l.crash(t, keep...)
		wantErrno(t, api.OK, l.open(t))
		wantRecords(t, l.journal, []string{"ab"}[:len(keep)]...)
	}
}

func wantActs(t *testing.T, l *life, want int) {
	t.Helper()
	if got := l.disk.Acts(); got != want {
		t.Errorf("%d acts, not %d", got, want)
	}
}

// wantBlock: a block has these bytes, and noughts behind them.
func wantBlock(t *testing.T, l *life, n int, want string) {
	t.Helper()
	if got, e := l.disk.Read(n); e != api.OK || got != want+strings.Repeat("\x00", 64-len(want)) {
		t.Errorf("block %d: %q, %d; not %q", n, got, e, want)
	}
}

// J3, J4: where records begin and end

// grown is a journal of eight or nine blocks whose records take so many bytes; false, if there is no such one.
func grown(t *testing.T, blocks, area, used int) (*life, bool) {
	t.Helper()
	if used == 1 {
		return nil, false
	}
	var records []string
	for _, length := range []int{5, 0, 70} {
		if rest := used - len(bytesOf(records...)); rest-2-length >= 2 {
			records = append(records, long(length))
		}
	}
	if used > 0 {
		records = append(records, long(used-len(bytesOf(records...))-2))
	}
	return opened(t, blocks, 7, area, records...), true
}

// Records of all lengths near the ends of blocks and of the area, behind used bytes that end everywhere.
func TestAppendEverywhere(t *testing.T) {
	for blocks := 8; blocks <= 9; blocks++ {
		for used := range (blocks-1)/2*64 + 1 {
			l, ok := grown(t, blocks, used%2, used)
			if !ok {
				continue
			}
			left := l.areaBytes() - used
			for length := range left + 3 {
				end := (used + 2 + length) % 64
				if length > 3 && length < left-5 && end > 2 && end < 62 && length%11 > 0 {
					continue
				}
				l, _ := grown(t, blocks, used%2, used)
				want := api.OK
				if length+2 > left {
					want = api.ErrJournalFull
				}
				wantErrno(t, want, l.append(t, long(length)))
				l.check(t)
				wantWrites(t, l, want, used, length)
			}
		}
	}
}

// wantWrites: there were as many Writes as blocks have new bytes, and one more, and two Syncs; or none, where it was refused.
func wantWrites(t *testing.T, l *life, e api.Errno, used, length int) {
	t.Helper()
	if e != api.OK {
		wantActs(t, l, 0)
		return
	}
	blocks := map[int]int{}
	for at := range length + 2 {
		blocks[(used+at)/64] = 1
	}
	wantActs(t, l, len(blocks)+3)
}

func TestRenewEverywhere(t *testing.T) {
	for blocks := 8; blocks <= 10; blocks++ {
		for _, used := range []int{0, 2, 63, 64, 65, 128, 190, 192} {
			for length := range (blocks-1)/2*64 + 3 {
				l, _ := grown(t, blocks, length%2, used)
				want := api.OK
				if length+2 > l.areaBytes() {
					want = api.ErrJournalFull
				}
				wantErrno(t, want, l.renew(t, long(length)))
				l.check(t)
				wantWrites(t, l, want, 0, length)
				if want == api.OK {
					wantErrno(t, api.OK, l.renew(t, "back"), l.append(t, "and on"))
					l.check(t)
				}
			}
		}
	}
}

// What stands behind the used bytes in a block becomes noughts; in blocks that have no new bytes it stays.
func TestWhatStandsBehindTheNewBytes(t *testing.T) {
	image := imageOf(9, 7, 0, "ab")
	l := born(t, image)
	wantErrno(t, api.OK, l.open(t), l.append(t, "c"))
	wantBlock(t, l, 1, "\x00\x02ab\x00\x01c")
	wantErrno(t, api.OK, l.append(t, long(58)))
	wantBlock(t, l, 1, "\x00\x02ab\x00\x01c\x00\x3a"+long(58)[:55])
	wantBlock(t, l, 2, long(58)[55:])
	for _, n := range []int{3, 4, 5, 6, 7, 8} {
		wantBlock(t, l, n, image[n])
	}
	wantErrno(t, api.OK, l.renew(t, long(62)))
	wantBlock(t, l, 5, "\x00\x3e"+long(62))
	wantBlock(t, l, 6, image[6])
	wantErrno(t, api.OK, l.append(t, ""))
	wantBlock(t, l, 6, "")
	wantBlock(t, l, 7, image[7])
	l.check(t)
}

// A record whose length's two bytes lie in two blocks.
func TestLengthInTwoBlocks(t *testing.T) {
	l := opened(t, 40, 7, 1, long(61))
	wantErrno(t, api.OK, l.append(t, long(300)))
	wantBlock(t, l, 20, "\x00\x3d"+long(61)+"\x01")
	wantBlock(t, l, 21, "\x2c"+long(63))
	l.check(t)
	wantErrno(t, api.OK, l.open(t))
	wantRecords(t, l.journal, long(61), long(300))
}

// Records have any bytes.
func TestRecordsOfAllBytes(t *testing.T) {
	l := begun(t, 200)
	var all strings.Builder
	for b := range 256 {
		all.WriteByte(byte(b))
		wantErrno(t, api.OK, l.append(t, string([]byte{byte(b)})))
	}
	for _, s := range []string{all.String(), headOf(9, 1, 77), bytesOf("a", "b"), "ä\n\x00\xff", strings.Repeat("\x00", 200), strings.Repeat("\xff", 200)} {
		wantErrno(t, api.OK, l.append(t, s))
	}
	l.check(t)
	wantErrno(t, api.OK, l.open(t), l.renew(t, all.String()))
	l.check(t)
	wantErrno(t, api.OK, l.open(t))
	wantRecords(t, l.journal, all.String())
}

// Many records, and many times by turns into both areas.
func TestManyRecords(t *testing.T) {
	l := begun(t, 9)
	for n := range 600 {
		if s := long(n % 23); l.append(t, s) == api.ErrJournalFull {
			wantErrno(t, api.OK, l.renew(t, s))
		}
		l.check(t)
		if n%5 == 0 {
			wantErrno(t, api.OK, l.open(t))
			l.check(t)
		}
	}
	if l.journal.Gen() != 600 {
		t.Errorf("Gen: %d", l.journal.Gen())
	}
}

// J3, J4: how long records may be

func TestGreatestRecords(t *testing.T) {
	l := begun(t, 4096)
	wantNumbers(t, l.journal, 0, 60000, 60000)
	wantErrno(t, api.ErrJournalLong, l.append(t, long(60001)), l.renew(t, long(60001)))
	wantErrno(t, api.OK, l.append(t, long(60000)))
	wantNumbers(t, l.journal, 1, 60000, 60000)
	wantActs(t, l, 2+938+3)
	wantErrno(t, api.OK, l.append(t, long(60000)))
	wantNumbers(t, l.journal, 2, 131008-120004-2, 60000)
	wantActs(t, l, 943+939+3)
	wantErrno(t, api.ErrJournalLong, l.append(t, long(60001)), l.renew(t, long(60001)), l.append(t, long(65535)), l.renew(t, long(65536)), l.renew(t, long(65537)), l.append(t, long(1<<20)))
	wantErrno(t, api.ErrJournalFull, l.append(t, long(60000)), l.append(t, long(11003)))
	wantErrno(t, api.OK, l.append(t, long(11002)))
	wantNumbers(t, l.journal, 3, -1, 60000)
	l.check(t)
	wantErrno(t, api.OK, l.open(t), l.renew(t, long(60000)), l.append(t, ""))
	l.check(t)
	wantErrno(t, api.OK, l.open(t))
	wantRecords(t, l.journal, long(60000), "")
}

// Disks on which a record of 60000 bytes just has room, and just has none.
func TestRecordsAsGreatAsAnArea(t *testing.T) {
	for blocks, room := range map[int]int{1875: 59966, 1876: 59966, 1877: 60000, 1878: 60000} {
		l := begun(t, blocks)
		wantNumbers(t, l.journal, 0, room, room)
		full := api.ErrJournalFull
		if room == 60000 {
			full = api.ErrJournalLong
		}
		wantErrno(t, full, l.append(t, long(room+1)), l.renew(t, long(room+1)))
		wantErrno(t, api.ErrJournalLong, l.append(t, long(60001)), l.renew(t, long(60001)))
		wantErrno(t, api.OK, l.append(t, long(room)))
		wantNumbers(t, l.journal, 1, max(-1, (blocks-1)/2*64-room-4), room)
		l.check(t)
		wantErrno(t, api.OK, l.renew(t, long(room)), l.open(t))
		wantRecords(t, l.journal, long(room))
		l.check(t)
	}
}

// As many bytes as have room, and one more, wherever the used ones end.
func TestRoom(t *testing.T) {
	for blocks := 8; blocks <= 9; blocks++ {
		for used := range (blocks-1)/2*64 + 1 {
			l, ok := grown(t, blocks, used%2, used)
			if !ok {
				continue
			}
			room, bare := l.areaBytes()-used-2, l.areaBytes()-2
			wantNumbers(t, l.journal, 7, max(-1, room), bare)
			if room < 0 {
				wantErrno(t, api.ErrJournalFull, l.append(t, ""), l.append(t, "a"))
			} else {
				wantErrno(t, api.ErrJournalFull, l.append(t, long(room+1)))
				wantErrno(t, api.OK, l.append(t, long(room)))
				wantNumbers(t, l.journal, 8, -1, bare)
			}
			wantErrno(t, api.ErrJournalFull, l.renew(t, long(bare+1)))
			wantErrno(t, api.OK, l.renew(t, long(bare)))
			wantNumbers(t, l.journal, l.gen, -1, bare)
			l.check(t)
		}
	}
}

// The generation's end

func TestWorn(t *testing.T) {
	for area := range 2 {
		l := opened(t, 8, 1<<62-1, area, "a")
		wantErrno(t, api.OK, l.append(t, "b"))
		wantNumbers(t, l.journal, 1<<62, 192-6-2, 190)
		wantBlock(t, l, 0, "TJ01\x40\x00\x00\x00\x00\x00\x00\x00"+string([]byte{byte(area)})+"\x00\x00\x00\x06")
		for range 2 {
			wantErrno(t, api.ErrJournalWorn, l.append(t, "c"), l.append(t, ""), l.renew(t, "c"), l.renew(t, ""))
			wantErrno(t, api.ErrJournalLong, l.append(t, long(60001)), l.renew(t, long(60001)))
			wantErrno(t, api.ErrJournalWorn, l.append(t, long(60000)), l.renew(t, long(60000)), l.append(t, long(185)), l.renew(t, long(191)))
			l.check(t)
			wantActs(t, l, 4)
			wantErrno(t, api.OK, l.open(t))
		}
		wantRecords(t, l.journal, "a", "b")
		wantErrno(t, api.OK, l.format(t), l.append(t, "c"))
		wantNumbers(t, l.journal, 1, 187, 190)
		l.check(t)

		l = opened(t, 8, 1<<62-1, area, "a")
		wantErrno(t, api.OK, l.renew(t, "b"))
		wantErrno(t, api.ErrJournalWorn, l.renew(t, "c"), l.append(t, "c"))
		l.check(t)
		wantRecords(t, l.journal, "b")
	}
}

// Several errors: the one that is named first. What is refused changes nothing.
func TestSeveralErrors(t *testing.T) {
	for trouble := 1; trouble < 32; trouble++ {
		has := func(bit int) bool { return trouble>>bit&1 == 1 }
		l, s, want := troubled(t, has(0), has(1), has(2), has(3), has(4))
		image, acts := l.disk.Image(), l.disk.Acts()
		wantErrno(t, want, l.journal.Append(s), l.journal.Renew(s), l.journal.Renew(s), l.journal.Append(s))
		if !slices.Equal(l.disk.Image(), image) {
			t.Errorf("trouble %b: a call that was refused wrote", trouble)
		}
		wantActs(t, l, acts)
	}
}

// troubled is a journal in trouble, a text that is too long for it or not, and what is told of it.
func troubled(t *testing.T, tooLong, dead, doubt, worn, full bool) (*life, string, api.Errno) {
	t.Helper()
	gen, s, want := 5, "", api.OK
	if full {
		s, want = long(60000), api.ErrJournalFull
	}
	if worn {
		gen, want = 1<<62, api.ErrJournalWorn
	}
	l := opened(t, 8, gen, 0, "ab")
	if doubt {
		l.kill(t)
		wantErrno(t, api.ErrDead, l.asked(t))
		l.crash(t)
		want = api.ErrDead
	}
	if dead {
		l.kill(t)
		want = api.ErrDead
	}
	if tooLong {
		s, want = long(60001), api.ErrJournalLong
	}
	return l, s, want
}
