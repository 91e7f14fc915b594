package journal_test

import (
	"encoding/binary"
	"fmt"
	"io"
	"slices"
	"strings"
	"testing"

	"tinderbox/api"
	"tinderbox/disk"
	"tinderbox/journal"
)

// The chapter's words once more: a journal's disk has a twin, on which the acts are done that the words ask for; what the journal has is a list of texts.

type life struct {
	disk, twin *disk.Disk
	journal    *journal.Journal
	// What it is by the chapter's words.
	gen, area int
	records   []string
	doubt     bool
	// Older ones that are in doubt, and stay so.
	doubtful []*journal.Journal
	past     []string
}

// born is a disk of such blocks, and its twin; no journal is open.
func born(t *testing.T, image []string) *life {
	t.Helper()
	d, e := disk.Load(image)
	twin, f := disk.Load(image)
	if d == nil || twin == nil || e != api.OK || f != api.OK {
		t.Fatalf("Load of %d: %d, %d", len(image), e, f)
	}
	return &life{disk: d, twin: twin}
}

// begun is a journal without records on a disk of so many blocks of noughts.
func begun(t *testing.T, blocks int) *life {
	t.Helper()
	l := born(t, noughts(blocks))
	wantErrno(t, api.OK, l.format(t))
	l.check(t)
	return l
}

// opened is a journal of such a generation and area, with such records, and other things where none of them stand.
func opened(t *testing.T, blocks, gen, area int, records ...string) *life {
	t.Helper()
	l := born(t, imageOf(blocks, gen, area, records...))
	wantErrno(t, api.OK, l.open(t))
	l.check(t)
	return l
}

// imageOf is the image of such a journal: what stands in all other bytes is no nought.
func imageOf(blocks, gen, area int, records ...string) []string {
	image := stripes(blocks)
	all := bytesOf(records...)
	image[0] = headOf(uint64(gen), byte(area), uint32(len(all)))
	lay(image, 1+area*((blocks-1)/2), all)
	return image
}

// lay lays bytes down from a block on; what stands behind them stays.
func lay(image []string, block int, all string) {
	for ; all != ""; block++ {
		length := min(len(all), 64)
		image[block] = all[:length] + image[block][length:]
		all = all[length:]
	}
}

// headOf is a head's block, whatever it says.
func headOf(gen uint64, area byte, used uint32) string {
	b := append(binary.BigEndian.AppendUint64([]byte("TJ01"), gen), area)
	b = binary.BigEndian.AppendUint32(b, used)
	return string(append(b, make([]byte, 47)...))
}

// bytesOf are the bytes that records take.
func bytesOf(records ...string) string {
	var b []byte
	for _, s := range records {
		b = append(binary.BigEndian.AppendUint16(b, uint16(len(s))), s...)
	}
	return string(b)
}

// cut are the records that stand in bytes; false, if something else stands there.
func cut(s string) ([]string, bool) {
	from := strings.NewReader(s)
	var records []string
	for from.Len() > 0 {
		var length uint16
		if binary.Read(from, binary.BigEndian, &length) != nil || length > 60000 {
			return nil, false
		}
		record := make([]byte, length)
		if _, e := io.ReadFull(from, record); e != nil {
			return nil, false
		}
		records = append(records, string(record))
	}
	return records, true
}

// stands is the journal that stands on the twin; false, if its head may not be.
func (l *life) stands() (gen, area int, records []string, ok bool) {
	image := l.twin.Image()
	head := []byte(image[0])
	if string(head[:4]) != "TJ01" || strings.Trim(image[0][17:], "\x00") != "" || head[12] > 1 {
		return 0, 0, nil, false
	}
	wide := binary.BigEndian.Uint64(head[4:])
	blocks := (len(image) - 1) / 2
	all := strings.Join(image[1:][int(head[12])*blocks:][:blocks], "")
	used := binary.BigEndian.Uint32(head[13:])
	if wide > 1<<62 || uint64(used) > uint64(len(all)) {
		return 0, 0, nil, false
	}
	records, ok = cut(all[:used])
	return int(wide), int(head[12]), records, ok
}

// areaBytes is how many bytes an area has.
func (l *life) areaBytes() int {
	return (l.twin.Size() - 1) / 2 * 64
}

// used is how many bytes the records take.
func (l *life) used() int {
	n := 0
	for _, s := range l.records {
		n += 2 + len(s)
	}
	return n
}

func (l *life) lives() bool {
	return !l.doubt && !l.twin.Dead()
}

// room is how long a record may be where so many bytes are used.
func (l *life) room(used int) int {
	left := l.areaBytes() - used - 2
	switch {
	case !l.lives() || left < 0:
		return -1
	case left > 60000:
		return 60000
	}
	return left
}

// told notes a call, and holds what it answered against what the words say.
func (l *life) told(t *testing.T, call string, e, want api.Errno) api.Errno {
	t.Helper()
	l.past = append(l.past, fmt.Sprintf("%s: %d", call, want))
	if e != want {
		t.Errorf("behind %v: %d, not %d", l.brief(), e, want)
	}
	return e
}

func (l *life) brief() []string {
	return l.past[max(0, len(l.past)-12):]
}

// renewed: what was opened is a journal of its own; what it was ahead of that stays in doubt, if it was.
func (l *life) renewed(j *journal.Journal) {
	if l.journal != nil && l.doubt {
		l.doubtful = append(l.doubtful, l.journal)
	}
	l.journal, l.doubt = j, false
}

func (l *life) format(t *testing.T) api.Errno {
	t.Helper()
	dead := l.twin.Dead()
	want := l.do(func() api.Errno { return l.twin.Write(0, headOf(0, 0, 0)) }, l.twin.Sync)
	j, e := journal.Format(l.disk)
	l.told(t, "Format", e, want)
	if (j != nil) != (want == api.OK) {
		t.Errorf("behind %v: a journal: %t", l.brief(), j != nil)
	}
	switch {
	case want == api.OK:
		l.renewed(j)
		l.gen, l.area, l.records = 0, 0, nil
	case !dead:
		// Somebody wrote to the disk of the one that was open.
		l.renewed(nil)
	}
	return e
}

func (l *life) open(t *testing.T) api.Errno {
	t.Helper()
	gen, area, records, ok := l.stands()
	want := api.OK
	switch {
	case l.twin.Dead():
		want = api.ErrDead
	case !ok:
		want = api.ErrJournalImage
	}
	j, e := journal.Open(l.disk)
	l.told(t, "Open", e, want)
	if (j != nil) != (want == api.OK) {
		t.Errorf("behind %v: a journal: %t", l.brief(), j != nil)
	}
	if want == api.OK {
		l.renewed(j)
		l.gen, l.area, l.records = gen, area, records
	}
	return e
}

// do does acts on the twin, up to the one in which it dies.
func (l *life) do(acts ...func() api.Errno) api.Errno {
	for _, act := range acts {
		if e := act(); e != api.OK {
			return e
		}
	}
	return api.OK
}

func (l *life) append(t *testing.T, s string) api.Errno {
	t.Helper()
	want := l.laid(s, l.area, append(slices.Clone(l.records), s))
	return l.told(t, fmt.Sprintf("Append of %d", len(s)), l.journal.Append(s), want)
}

func (l *life) renew(t *testing.T, s string) api.Errno {
	t.Helper()
	want := l.laid(s, 1-l.area, []string{s})
	return l.told(t, fmt.Sprintf("Renew of %d", len(s)), l.journal.Renew(s), want)
}

// laid does on the twin what lays the last one of these records down, which are all that the area has then.
func (l *life) laid(s string, area int, records []string) api.Errno {
	all := bytesOf(records...)
	switch {
	case len(s) > 60000:
		return api.ErrJournalLong
	case !l.lives():
		l.doubt = true
		return api.ErrDead
	case l.gen == 1<<62:
		return api.ErrJournalWorn
	case len(all) > l.areaBytes():
		return api.ErrJournalFull
	}
	first := 1 + area*((l.twin.Size()-1)/2)
	image := noughts(l.twin.Size())
	lay(image, first, all)
	var acts []func() api.Errno
	for n := (len(all) - len(s) - 2) / 64; n <= (len(all)-1)/64; n++ {
		acts = append(acts, func() api.Errno { return l.twin.Write(first+n, image[first+n]) })
	}
	acts = append(acts, l.twin.Sync, func() api.Errno {
		return l.twin.Write(0, headOf(uint64(l.gen)+1, byte(area), uint32(len(all))))
	}, l.twin.Sync)
	if e := l.do(acts...); e != api.OK {
		l.doubt = true
		return e
	}
	l.gen, l.area, l.records = l.gen+1, area, records
	return api.OK
}

func (l *life) asked(t *testing.T) api.Errno {
	t.Helper()
	all, e := l.journal.Records()
	want, wantE := l.records, api.OK
	if !l.lives() {
		l.doubt = true
		want, wantE = nil, api.ErrDead
	}
	if !slices.Equal(all, want) {
		t.Errorf("behind %v: the records %.9q, not %.9q", l.brief(), all, want)
	}
	return l.told(t, "Records", e, wantE)
}

func (l *life) arm(t *testing.T, n int) {
	t.Helper()
	l.told(t, fmt.Sprint("Arm of ", n), l.disk.Arm(n), l.twin.Arm(n))
}

func (l *life) crash(t *testing.T, keep ...int) {
	t.Helper()
	l.told(t, fmt.Sprint("Crash of ", keep), l.disk.Crash(keep), l.twin.Crash(keep))
}

// sync is an act of somebody else, which writes nothing.
func (l *life) sync(t *testing.T) api.Errno {
	t.Helper()
	return l.told(t, "Sync", l.disk.Sync(), l.twin.Sync())
}

// kill lets the disk die by somebody else's act.
func (l *life) kill(t *testing.T) {
	t.Helper()
	l.arm(t, 1)
	wantErrno(t, api.ErrDead, l.sync(t))
}

// write is what somebody else writes where no journal is open.
func (l *life) write(t *testing.T, n int, s string) {
	t.Helper()
	l.told(t, fmt.Sprint("Write of ", n), l.disk.Write(n, s), l.twin.Write(n, s))
}

// check holds the disk against its twin, and the journal against the words. It puts nothing in doubt.
func (l *life) check(t *testing.T) {
	t.Helper()
	if got, want := l.disk.Image(), l.twin.Image(); !slices.Equal(got, want) {
		for n := range want {
			if got[n] != want[n] {
				t.Errorf("behind %v: block %d is %q, not %q", l.brief(), n, got[n], want[n])
			}
		}
	}
	if got, want := l.disk.Pending(), l.twin.Pending(); !slices.Equal(got, want) {
		t.Errorf("behind %v: %v is pending, not %v", l.brief(), got, want)
	}
	if l.disk.Acts() != l.twin.Acts() || l.disk.Dead() != l.twin.Dead() {
		t.Errorf("behind %v: %d acts, dead: %t; not %d, %t", l.brief(), l.disk.Acts(), l.disk.Dead(), l.twin.Acts(), l.twin.Dead())
	}
	if l.journal != nil {
		l.checkNumbers(t)
		if l.doubt || l.lives() {
			l.asked(t)
		}
	}
	for _, j := range l.doubtful {
		wantDoubt(t, j)
	}
}

func (l *life) checkNumbers(t *testing.T) {
	t.Helper()
	gen := -1
	if l.lives() {
		gen = l.gen
	}
	wantNumbers(t, l.journal, gen, l.room(l.used()), l.room(0))
	if t.Failed() {
		t.Fatalf("behind %v", l.brief())
	}
}

func wantNumbers(t *testing.T, j *journal.Journal, gen, room, bare int) {
	t.Helper()
	if j.Gen() != gen || j.Room() != room || j.Bare() != bare {
		t.Errorf("Gen: %d, Room: %d, Bare: %d; not %d, %d, %d", j.Gen(), j.Room(), j.Bare(), gen, room, bare)
	}
}

// wantDoubt: a journal is in doubt: it answers nothing but that, and errors of what it is given alone.
func wantDoubt(t *testing.T, j *journal.Journal) {
	t.Helper()
	all, e := j.Records()
	wantErrno(t, api.ErrDead, e, j.Append(""), j.Append("a"), j.Renew(""), j.Renew("a"), j.Append(long(60000)), j.Renew(long(60000)))
	wantErrno(t, api.ErrJournalLong, j.Append(long(60001)), j.Renew(long(60001)))
	if len(all) != 0 {
		t.Errorf("in doubt it has records: %.9q", all)
	}
	wantNumbers(t, j, -1, -1, -1)
}

// wantRecords: just these stand there.
func wantRecords(t *testing.T, j *journal.Journal, want ...string) {
	t.Helper()
	if got, e := j.Records(); e != api.OK || !slices.Equal(got, want) {
		t.Errorf("the records %.9q, %d; not %.9q", got, e, want)
	}
}

// wantErrno: each of some calls answers this.
func wantErrno(t *testing.T, want api.Errno, all ...api.Errno) {
	t.Helper()
	for at, e := range all {
		if e != want {
			t.Errorf("call %d: %d, not %d", at, e, want)
		}
	}
}

// long is a text of so many bytes, which are not all alike.
func long(length int) string {
	return strings.Repeat("0123456789abcdefghijklmnopqrstuvwxyz-", length/37+1)[:length]
}

// noughts are so many blocks of bytes 0.
func noughts(count int) []string {
	return slices.Repeat([]string{strings.Repeat("\x00", 64)}, count)
}

// stripes are so many different blocks of all kinds of bytes.
func stripes(count int) []string {
	image := make([]string, count)
	for n := range image {
		var b [64]byte
		for at := range b {
			b[at] = byte(n + 37*at + 1)
		}
		b[62], b[63] = byte(n), byte(n>>8)
		image[n] = string(b[:])
	}
	return image
}

// subsets are all lists of some of these numbers, in their order.
func subsets(of []int) [][]int {
	all := [][]int{nil}
	for _, n := range of {
		for _, list := range all {
			all = append(all, append(slices.Clone(list), n))
		}
	}
	return all
}

// numbers gives the same numbers in every run.
type numbers uint64

func (x *numbers) next() int {
	*x = *x*6364136223846793005 + 1442695040888963407
	return int(*x >> 33)
}

// pick is one of some.
func pick[E any](x *numbers, l []E) E {
	return l[x.next()%len(l)]
}

// some are some of the elements of a list, in their order.
func (x *numbers) some(list []int) []int {
	odds := 1 + x.next()%4
	return slices.DeleteFunc(slices.Clone(list), func(int) bool { return x.next()%5 < odds })
}
