package store_test

import (
	"bytes"
	"encoding/binary"
	"fmt"
	"io"
	"slices"
	"strings"
	"testing"

	"tinderbox/api"
	"tinderbox/disk"
	"tinderbox/journal"
	"tinderbox/store"
)

// The chapter's words once more: a store's disk has a twin, with a journal on which records are laid down that are made here; what is committed is a list that rises, what is begun a list of all that was asked for.

// change is what a table and a key are to have, or that they go.
type change struct {
	pair api.Pair
	goes bool
}

type life struct {
	disk, twin *disk.Disk
	store      *store.Store
	// What it is by the chapter's words.
	journal *journal.Journal
	pairs   []api.Pair
	begun   bool
	changes []change
	doubt   bool
	// Older ones that are in doubt, and stay so.
	doubtful []*store.Store
	past     []string
}

// born is a disk of such blocks, and its twin; no store is open.
func born(t *testing.T, image []string) *life {
	t.Helper()
	d, e := disk.Load(image)
	twin, f := disk.Load(image)
	if d == nil || twin == nil || e != api.OK || f != api.OK {
		t.Fatalf("Load of %d: %d, %d", len(image), e, f)
	}
	return &life{disk: d, twin: twin}
}

// laid is a store without pairs on a disk of so many blocks of noughts.
func laid(t *testing.T, blocks int) *life {
	t.Helper()
	l := born(t, noughts(blocks))
	wantErrno(t, api.OK, l.format(t))
	l.check(t)
	return l
}

// holding is a store in which these pairs are committed, written table/key=value.
func holding(t *testing.T, blocks int, pairs ...string) *life {
	t.Helper()
	l := laid(t, blocks)
	if len(pairs) > 0 {
		wantErrno(t, api.OK, l.commits(t, pairs...))
	}
	l.check(t)
	return l
}

// imageWith is the image of a disk whose journal has these records.
func imageWith(t *testing.T, blocks int, records ...string) []string {
	t.Helper()
	d, _ := disk.New(blocks)
	j, e := journal.Format(d)
	wantErrno(t, api.OK, e)
	for _, s := range records {
		wantErrno(t, api.OK, j.Append(s))
	}
	return d.Image()
}

// aged is an image whose journal has this generation.
func aged(image []string, gen int) []string {
	image = slices.Clone(image)
	image[0] = image[0][:4] + string(binary.BigEndian.AppendUint64(nil, uint64(gen))) + image[0][12:]
	return image
}

// parsed are a pair and whether it goes, from `table/key=value`, or `table/key`.
func parsed(s string) change {
	at, value, is := strings.Cut(s, "=")
	table, key, _ := strings.Cut(at, "/")
	return change{api.Pair{Table: table, Key: key, Value: value}, !is}
}

func parsedPairs(all ...string) []api.Pair {
	var pairs []api.Pair
	for _, s := range all {
		pairs = append(pairs, parsed(s).pair)
	}
	return pairs
}

// order: bytes 0 are in no word, and ahead of all that are, so tables that go on from others stand behind these.
func order(a, b api.Pair) int {
	return strings.Compare(a.Table+"\x00"+a.Key, b.Table+"\x00"+b.Key)
}

func (c change) apply(pairs []api.Pair) []api.Pair {
	at, there := slices.BinarySearchFunc(pairs, c.pair, order)
	behind := at
	if there {
		behind++
	}
	next := slices.Clone(pairs[:at])
	if !c.goes {
		next = append(next, c.pair)
	}
	return append(next, pairs[behind:]...)
}

// counting are the changes that count, rising: of each table and key the last one, if it changes something; and the pairs behind them.
func counting(pairs []api.Pair, changes []change) ([]change, []api.Pair) {
	last := map[string]int{}
	for at, c := range changes {
		last[c.pair.Table+"/"+c.pair.Key] = at
	}
	var counts []change
	next := pairs
	for at, c := range changes {
		if last[c.pair.Table+"/"+c.pair.Key] == at && !slices.Equal(c.apply(pairs), pairs) {
			counts = append(counts, c)
			next = c.apply(next)
		}
	}
	slices.SortFunc(counts, func(a, b change) int { return order(a.pair, b.pair) })
	return counts, next
}

// The bytes of records

func row(n int) string {
	return string(binary.AppendUvarint(nil, uint64(n)))
}

func text(s string) string {
	return row(len(s)) + s
}

// sayChanges is the record of changes, as they stand here; each written table/key=value, or table/key.
func sayChanges(changes ...string) string {
	var all []change
	for _, s := range changes {
		all = append(all, parsed(s))
	}
	return recordOfChanges(all)
}

func recordOfChanges(changes []change) string {
	all := "\x00"
	for _, c := range changes {
		all += text(c.pair.Table) + text(c.pair.Key)
		if c.goes {
			all += "\x00"
		} else {
			all += "\x01" + text(c.pair.Value)
		}
	}
	return all
}

// sayWhole is the record of the whole, of these pairs, as they stand here.
func sayWhole(pairs ...string) string {
	return recordOfWhole(parsedPairs(pairs...))
}

func recordOfWhole(pairs []api.Pair) string {
	var all strings.Builder
	all.WriteString("\x01")
	for _, p := range pairs {
		all.WriteString(text(p.Table) + text(p.Key) + text(p.Value))
	}
	return all.String()
}

// reading takes rows and texts up, whatever they say.
type reading struct {
	from *bytes.Reader
	ok   bool
}

func (r *reading) row() uint64 {
	n, err := binary.ReadUvarint(r.from)
	r.ok = r.ok && err == nil
	return n
}

func (r *reading) text() string {
	length := r.row()
	if !r.ok || length > uint64(r.from.Len()) {
		r.ok = false
		return ""
	}
	b := make([]byte, length)
	io.ReadFull(r.from, b)
	return string(b)
}

// read is what a record says, right or not; false, if its bytes are none of a record's.
func read(s string) (whole bool, changes []change, ok bool) {
	r := &reading{bytes.NewReader([]byte(s)), true}
	kind := r.row()
	for r.ok && r.from.Len() > 0 {
		c := change{pair: api.Pair{Table: r.text(), Key: r.text()}}
		if kind == 0 {
			c.goes = r.row() == 0
		}
		if !c.goes {
			c.pair.Value = r.text()
		}
		changes = append(changes, c)
	}
	if !r.ok {
		return false, nil, false
	}
	// There is one way to write each: so what is written otherwise (longer rows, other numbers) is none.
	if kind == 0 {
		return false, changes, recordOfChanges(changes) == s
	}
	var pairs []api.Pair
	for _, c := range changes {
		pairs = append(pairs, c.pair)
	}
	return true, changes, recordOfWhole(pairs) == s
}

func isWord(s string) bool {
	return len(s) >= 1 && len(s) <= 32 && strings.Trim(s, "abcdefghijklmnopqrstuvwxyz0123456789-_.") == ""
}

func isRight(p api.Pair) bool {
	return isWord(p.Table) && isWord(p.Key) && len(p.Value) <= 200
}

// said is what records say, one behind the other; false, if one of them is not right.
func said(records []string) ([]api.Pair, bool) {
	var pairs []api.Pair
	for at, s := range records {
		whole, changes, ok := read(s)
		if !ok || whole && at > 0 || !whole && len(changes) == 0 {
			return nil, false
		}
		next := pairs
		for i, c := range changes {
			if !isRight(c.pair) || i > 0 && order(changes[i-1].pair, c.pair) >= 0 || slices.Equal(c.apply(next), next) {
				return nil, false
			}
			next = c.apply(next)
		}
		pairs = next
		if len(pairs) > 500 {
			return nil, false
		}
	}
	return pairs, true
}

// What is done, and what is told of it

func (l *life) lives() bool {
	return !l.doubt && !l.twin.Dead()
}

// told notes a call, and holds what it answered against what the words say.
func (l *life) told(t *testing.T, call string, e, want api.Errno) api.Errno {
	t.Helper()
	l.past = append(l.past, fmt.Sprintf("%s: %d", call, want))
	if e != want {
		t.Errorf("behind %q: %d, not %d", l.brief(), e, want)
	}
	return e
}

func (l *life) brief() []string {
	return l.past[max(0, len(l.past)-12):]
}

// renewed: what was opened is a store of its own; what it was ahead of that stays in doubt, if it was.
func (l *life) renewed(s *store.Store, j *journal.Journal, pairs []api.Pair) {
	if l.store != nil && l.doubt {
		l.doubtful = append(l.doubtful, l.store)
	}
	l.store, l.journal, l.pairs = s, j, pairs
	l.doubt, l.begun, l.changes = false, false, nil
}

func (l *life) format(t *testing.T) api.Errno {
	t.Helper()
	dead := l.twin.Dead()
	j, want := journal.Format(l.twin)
	s, e := store.Format(l.disk)
	l.told(t, "Format", e, want)
	if (s != nil) != (want == api.OK) {
		t.Errorf("behind %q: a store: %t", l.brief(), s != nil)
	}
	switch {
	case want == api.OK:
		l.renewed(s, j, nil)
	case !dead:
		// Somebody wrote to the disk of the one that was open.
		l.renewed(nil, nil, nil)
	}
	return e
}

// stands is the journal that stands on the twin, and the pairs of which it tells.
func (l *life) stands() (*journal.Journal, []api.Pair, api.Errno) {
	j, e := journal.Open(l.twin)
	if e == api.ErrJournalImage {
		return nil, nil, api.ErrStoreImage
	}
	if e != api.OK {
		return nil, nil, e
	}
	records, _ := j.Records()
	pairs, ok := said(records)
	if !ok {
		return nil, nil, api.ErrStoreImage
	}
	return j, pairs, api.OK
}

func (l *life) open(t *testing.T) api.Errno {
	t.Helper()
	j, pairs, want := l.stands()
	s, e := store.Open(l.disk)
	l.told(t, "Open", e, want)
	if (s != nil) != (want == api.OK) {
		t.Errorf("behind %q: a store: %t", l.brief(), s != nil)
	}
	if want == api.OK {
		l.renewed(s, j, pairs)
	}
	return e
}

// refused is why a call may not go on that wants changes to be begun, or not to be.
func (l *life) refused(begun bool) api.Errno {
	switch {
	case !l.lives():
		l.doubt = true
		return api.ErrDead
	case l.begun != begun:
		return api.ErrStoreOpen
	}
	return api.OK
}

func (l *life) begin(t *testing.T) api.Errno {
	t.Helper()
	want := l.refused(false)
	if want == api.OK {
		l.begun, l.changes = true, nil
	}
	return l.told(t, "Begin", l.store.Begin(), want)
}

func (l *life) put(t *testing.T, p api.Pair) api.Errno {
	t.Helper()
	want := l.noted(change{pair: p})
	return l.told(t, fmt.Sprintf("Put %.9q/%.9q=%.9q", p.Table, p.Key, p.Value), l.store.Put(p), want)
}

func (l *life) drop(t *testing.T, table, key string) api.Errno {
	t.Helper()
	want := l.noted(change{api.Pair{Table: table, Key: key}, true})
	return l.told(t, fmt.Sprintf("Drop %.9q/%.9q", table, key), l.store.Drop(table, key), want)
}

func (l *life) noted(c change) api.Errno {
	if !isRight(c.pair) {
		return api.ErrStoreForm
	}
	e := l.refused(true)
	if e == api.OK {
		l.changes = append(l.changes, c)
	}
	return e
}

// change does what `table/key=value`, or `table/key`, says.
func (l *life) change(t *testing.T, s string) api.Errno {
	t.Helper()
	c := parsed(s)
	if c.goes {
		return l.drop(t, c.pair.Table, c.pair.Key)
	}
	return l.put(t, c.pair)
}

func (l *life) commit(t *testing.T) api.Errno {
	t.Helper()
	want := l.refused(true)
	if want == api.OK {
		want = l.committed()
	}
	if want != api.ErrStoreOpen {
		l.begun, l.changes = false, nil
	}
	return l.told(t, "Commit", l.store.Commit(), want)
}

// committed does on the twin what lets the changes last.
func (l *life) committed() api.Errno {
	counts, next := counting(l.pairs, l.changes)
	if len(counts) == 0 {
		return api.OK
	}
	if len(next) > 500 {
		return api.ErrStoreMany
	}
	e := api.ErrJournalFull
	if part, whole := recordOfChanges(counts), recordOfWhole(next); len(part) <= l.journal.Room() {
		e = l.journal.Append(part)
	} else if len(whole) <= l.journal.Bare() {
		e = l.journal.Renew(whole)
	}
	switch e {
	case api.OK:
		l.pairs = next
	case api.ErrDead:
		l.doubt = true
	}
	return e
}

func (l *life) abort(t *testing.T) api.Errno {
	t.Helper()
	want := l.refused(true)
	if want == api.OK {
		l.begun, l.changes = false, nil
	}
	return l.told(t, "Abort", l.store.Abort(), want)
}

// commits begins, does these changes, and commits them.
func (l *life) commits(t *testing.T, changes ...string) api.Errno {
	t.Helper()
	if e := l.begin(t); e != api.OK {
		return e
	}
	for _, s := range changes {
		if e := l.change(t, s); e != api.OK {
			return e
		}
	}
	return l.commit(t)
}

func (l *life) arm(t *testing.T, n int) {
	t.Helper()
	l.told(t, fmt.Sprint("Arm of ", n), l.disk.Arm(n), l.twin.Arm(n))
}

func (l *life) crash(t *testing.T, keep ...int) {
	t.Helper()
	l.told(t, fmt.Sprint("Crash of ", keep), l.disk.Crash(keep), l.twin.Crash(keep))
}

// sync is an act of somebody else, which writes nothing.
func (l *life) sync(t *testing.T) api.Errno {
	t.Helper()
	return l.told(t, "Sync", l.disk.Sync(), l.twin.Sync())
}

// kill lets the disk die by somebody else's act.
func (l *life) kill(t *testing.T) {
	t.Helper()
	l.arm(t, 1)
	wantErrno(t, api.ErrDead, l.sync(t))
}

// check holds the disk against its twin, and the store against the words. It puts nothing in doubt.
func (l *life) check(t *testing.T) {
	t.Helper()
	if got, want := l.disk.Image(), l.twin.Image(); !slices.Equal(got, want) {
		for n := range want {
			if got[n] != want[n] {
				t.Errorf("behind %q: block %d is %q, not %q", l.brief(), n, got[n], want[n])
			}
		}
	}
	if got, want := l.disk.Pending(), l.twin.Pending(); !slices.Equal(got, want) {
		t.Errorf("behind %q: %v is pending, not %v", l.brief(), got, want)
	}
	if l.disk.Acts() != l.twin.Acts() || l.disk.Dead() != l.twin.Dead() {
		t.Errorf("behind %q: %d acts, dead: %t; not %d, %t", l.brief(), l.disk.Acts(), l.disk.Dead(), l.twin.Acts(), l.twin.Dead())
	}
	if l.store != nil {
		l.checkPairs(t)
	}
	for _, s := range l.doubtful {
		wantDoubt(t, s)
	}
	if t.Failed() {
		t.Fatalf("behind %q", l.brief())
	}
}

func (l *life) checkPairs(t *testing.T) {
	t.Helper()
	want := l.pairs
	if !l.lives() {
		want = nil
	}
	wantPairs(t, l.store, want)
	for _, p := range l.pairs {
		if l.lives() {
			wantGet(t, l.store, p.Table, p.Key, p.Value)
		} else {
			wantNone(t, l.store, p.Table, p.Key)
		}
	}
	for _, c := range l.changes {
		if _, there := slices.BinarySearchFunc(want, c.pair, order); !there {
			wantNone(t, l.store, c.pair.Table, c.pair.Key)
		}
	}
}

func wantPairs(t *testing.T, s *store.Store, want []api.Pair) {
	t.Helper()
	if got := s.All(); !slices.Equal(got, want) {
		t.Errorf("All: %.20q, not %.20q", got, want)
	}
}

// wantAll: just these are committed.
func wantAll(t *testing.T, s *store.Store, want ...string) {
	t.Helper()
	wantPairs(t, s, parsedPairs(want...))
}

func wantGet(t *testing.T, s *store.Store, table, key, want string) {
	t.Helper()
	if value, ok := s.Get(table, key); value != want || !ok {
		t.Errorf("Get of %q, %q: %q, %t; not %q", table, key, value, ok, want)
	}
}

func wantNone(t *testing.T, s *store.Store, table, key string) {
	t.Helper()
	if value, ok := s.Get(table, key); value != "" || ok {
		t.Errorf("Get of %q, %q: %q, %t; not none", table, key, value, ok)
	}
}

// wantDoubt: a store's disk is dead, or its journal in doubt: it answers nothing but that, and errors of what it is given alone. It is in doubt behind that.
func wantDoubt(t *testing.T, s *store.Store) {
	t.Helper()
	wantNone(t, s, "a", "x")
	wantPairs(t, s, nil)
	for range 2 {
		wantErrno(t, api.ErrDead, s.Begin(), s.Put(api.Pair{Table: "a", Key: "x"}), s.Drop("a", "x"), s.Abort(), s.Commit())
		wantErrno(t, api.ErrStoreForm, s.Put(api.Pair{}), s.Drop("", "x"), s.Drop("a", ""))
	}
	wantPairs(t, s, nil)
	wantNone(t, s, "a", "x")
}

// wantRecords: just these stand on a disk.
func wantRecords(t *testing.T, d *disk.Disk, want ...string) {
	t.Helper()
	j, e := journal.Open(d)
	wantErrno(t, api.OK, e)
	if got, e := j.Records(); e != api.OK || !slices.Equal(got, want) {
		t.Errorf("the records %.99q, %d; not %.99q", got, e, want)
	}
}

func wantActs(t *testing.T, l *life, want int) {
	t.Helper()
	if got := l.disk.Acts(); got != want {
		t.Errorf("%d acts, not %d", got, want)
	}
}

// wantErrno: each of some calls answers this.
func wantErrno(t *testing.T, want api.Errno, all ...api.Errno) {
	t.Helper()
	for at, e := range all {
		if e != want {
			t.Errorf("call %d: %d, not %d", at, e, want)
		}
	}
}

// many are so many pairs of a table, rising, with values of so many bytes.
func many(table string, count, length int) []string {
	var all []string
	for n := range count {
		all = append(all, fmt.Sprintf("%s/k%03d=%s", table, n, long(length)))
	}
	return all
}

// without are pairs without their values: that they go.
func without(pairs []string) []string {
	var all []string
	for _, s := range pairs {
		all = append(all, s[:strings.Index(s, "=")])
	}
	return all
}

// long is a text of so many bytes, which are not all alike.
func long(length int) string {
	return strings.Repeat("0123456789abcdefghijklmnopqrstuvwxyz-", length/37+1)[:length]
}

// noughts are so many blocks of bytes 0.
func noughts(count int) []string {
	return slices.Repeat([]string{strings.Repeat("\x00", 64)}, count)
}

// subsets are all lists of some of these numbers, in their order.
func subsets(of []int) [][]int {
	all := [][]int{nil}
	for _, n := range of {
		for _, list := range all {
			all = append(all, append(slices.Clone(list), n))
		}
	}
	return all
}

// numbers gives the same numbers in every run.
type numbers uint64

func (x *numbers) next() int {
	*x = *x*6364136223846793005 + 1442695040888963407
	return int(*x >> 33)
}

// pick is one of some.
func pick[E any](x *numbers, l []E) E {
	return l[x.next()%len(l)]
}

// some are some of the elements of a list, in their order.
func (x *numbers) some(list []int) []int {
	odds := 1 + x.next()%4
	return slices.DeleteFunc(slices.Clone(list), func(int) bool { return x.next()%5 < odds })
}
