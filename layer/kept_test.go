package layer_test

import (
	"slices"
	"strings"
	"sync"
	"testing"
	"unsafe"

	"tinderbox/api"
	"tinderbox/key"
	"tinderbox/layer"
)

// R2, R3

// What is asked ahead of main is answered as at every other time.
var (
	early, earlyErrno, _, _ = layer.Merge(key.Standard(), lists(given("net.port", "9000"), given("net.port", "9001", "net.port", "9002")), []int{1, 3})
	earlyPort, earlyThere   = early.Get("net.port")
	earlyPut                = early.Put("net.peers", words("a", "b"), 5)
	earlyCopy               = early.Copy()
	earlyAll                = earlyCopy.All()

	earlyNone, earlyWrong, earlyList, earlyPlace = layer.Merge(key.Standard(), lists(nil, given("net.port", "1", "net.prot", "1")), []int{1, 3})
)

func TestCallsAheadOfMain(t *testing.T) {
	if !alike(earlyPort, api.Setting{Name: "net.port", Value: integer(9002), From: 3}) || !earlyThere || earlyErrno != api.OK || earlyPut != api.OK {
		t.Errorf("at start-up: %+v, %t, %d, %d", earlyPort, earlyThere, earlyErrno, earlyPut)
	}
	x, m := merged(t, key.Standard(), lists(given("net.port", "9002")), []int{3})
	m.wantPut(t, x, "net.peers", words("a", "b"), 5, api.OK)
	m.check(t, early)
	m.check(t, earlyCopy)
	if !slices.EqualFunc(earlyAll, x.All(), alike) {
		t.Errorf("All at start-up: %+v", earlyAll)
	}
	if earlyNone != nil || earlyWrong != api.ErrLayerName || earlyList != 1 || earlyPlace != 1 {
		t.Errorf("Merge of wrong ones at start-up: %d, %d, %d", earlyWrong, earlyList, earlyPlace)
	}
}

// Neither lists, nor those within, nor the spare room of any of them is written into.
func TestListsThatAreHandedInAreNotWrittenInto(t *testing.T) {
	s := key.Standard()
	all := given("net.port", "1", "net.peers", "a,b", "net.port", "x", "net.prot", "1", "boot.dry", "on", "room", "room")
	l := lists(all[:2], all[4:5], all[1:2:2], all[0:0], all[2:3], all[3:4], all)
	from := []int{1, 2, 3, 4, 4, 0, 5, 9}
	all2, l2, from2 := slices.Clone(all), listsCloned(l), slices.Clone(from)
	for i := range l {
		for to := i; to <= len(l); to++ {
			for at := range from {
				for _, list := range [][][]api.Given{l[i:to], l[i:to:to]} {
					layer.Merge(s, list, from[at:min(at+to-i, len(from))])
					layer.Merge(nil, list, from[at:])
				}
			}
		}
	}
	if !slices.Equal(all, all2) || !slices.EqualFunc(l, l2, slices.Equal[[]api.Given]) || !slices.Equal(from, from2) {
		t.Errorf("Merge wrote into its lists: %+v, %+v, %v", all, l, from)
	}
	if !slices.Equal(s.All(), key.Standard().All()) {
		t.Errorf("the set was written into: %+v", s.All())
	}
}

func TestWordsThatArePutAreNotWrittenInto(t *testing.T) {
	x, _ := merged(t, key.Standard(), nil, nil)
	all := []string{"ahead", "a", "b", "room", "Room"}
	before := slices.Clone(all)
	for from := range all {
		for to := from; to <= len(all); to++ {
			for _, list := range [][]string{all[from:to], all[from:to:to]} {
				for _, name := range []string{"net.peers", "boot.services", "net.port", "net.prot"} {
					x.Put(name, words(list...), to)
					x.Put(name, words(list...), -1)
					x.Put(name, api.Value{Kind: api.Int, Int: 1, Words: list}, to)
					x.All()
				}
			}
		}
	}
	if !slices.Equal(all, before) {
		t.Errorf("Put wrote into words: %q", all)
	}
}

// spoil writes into a list, and into its spare room.
func spoil[E any](list []E, with E) {
	list = list[:cap(list)]
	for i := range list {
		list[i] = with
	}
}

func spoilValue(v api.Value) {
	spoil(v.Words, "spoilt")
}

// Settings stay as they are, whatever becomes of what was handed in.
func TestListsThatAreHandedInAreNotKept(t *testing.T) {
	s := key.Standard()
	l := lists(given("net.port", "1", "net.peers", "a,b"), given("net.host", "h", "net.port", "2"))
	from := []int{2, 4}
	x, m := merged(t, s, l, from)
	y := x.Copy()
	for i := range l {
		spoil(l[i], given("log.level", "5")[0])
	}
	spoil(l, given("boot.dry", "on"))
	spoil(from, 1)
	m.check(t, x)
	m.check(t, y)
	wantHeld(t, x, "net.port", integer(2), api.FromFlag)
	wantHeld(t, x, "net.peers", words("a", "b"), api.FromStore)
	wantHeld(t, x, "log.level", integer(2), api.FromDefault)
}

func TestWordsThatArePutAreNotKept(t *testing.T) {
	x, m := merged(t, key.Standard(), nil, nil)
	for count := range 17 {
		list := slices.Repeat([]string{"w"}, count)
		m.wantPut(t, x, "net.peers", words(list...), 1, api.OK)
		m.wantPut(t, x, "boot.services", words(append(list, "room")[:count]...), 1, api.OK)
		y := x.Copy()
		spoil(list, "spoilt")
		m.check(t, x)
		m.check(t, y)
	}
	// A list without words may have room for some.
	room := []string{"room", "room"}
	for name, v := range map[string]api.Value{"net.peers": words(), "net.port": integer(5), "boot.dry": {Kind: api.Bool}, "net.host": text("x")} {
		v.Words = room[:0]
		m.wantPut(t, x, name, v, 1, api.OK)
		one, _ := x.Get(name)
		spoilValue(one.Value)
		if !slices.Equal(room, []string{"room", "room"}) {
			t.Errorf("Get of %s tells a list that was handed in", name)
		}
	}
}

// Lists that come out, those within, and their spare room, belong to whom they were given.
func TestListsThatComeOutAreNewMemory(t *testing.T) {
	x, m := merged(t, ownSet(), lists(given("a0.w", "x,y,z")), []int{1})
	m.wantPut(t, x, "ab", text("t"), 2, api.OK)
	y := x.Copy()
	for range 3 {
		one, two := x.All(), x.All()
		for i := range one {
			spoilValue(one[i].Value)
		}
		spoil(one, api.Setting{Name: "spoilt", Value: words("spoilt"), From: 9})
		if !slices.EqualFunc(two, m.all(), alike) {
			t.Errorf("another answer was written into: %+v", two)
		}
		for _, k := range m.keys {
			got, _ := x.Get(k.Name)
			again, _ := x.Get(k.Name)
			fromCopy, _ := y.Get(k.Name)
			spoilValue(got.Value)
			if !alike(again, m.held[k.Name]) || !alike(fromCopy, m.held[k.Name]) {
				t.Errorf("another answer was written into: %+v, %+v", again, fromCopy)
			}
		}
		m.check(t, x)
		m.check(t, y)
		// What came out may be put in again, and written into behind that.
		w, _ := x.Get("a0.w")
		m.wantPut(t, x, "a0.w", w.Value, 1, api.OK)
		spoilValue(w.Value)
		m.check(t, x)
		m.check(t, y)
	}
}

// No two lists of one answer share memory, nor do those that two settings got from one list.
func TestListsOfOneAnswerShareNothing(t *testing.T) {
	x, m := merged(t, key.Standard(), nil, nil)
	list := words("a", "b", "c")
	m.wantPut(t, x, "net.peers", list, 1, api.OK)
	m.wantPut(t, x, "boot.services", list, 1, api.OK)
	all := x.All()
	at := slices.IndexFunc(all, func(one api.Setting) bool { return one.Name == "net.peers" })
	spoilValue(all[at].Value)
	all[at] = m.held["net.peers"]
	if !slices.EqualFunc(all, m.all(), alike) {
		t.Errorf("two lists share memory: %+v", all)
	}
}

// An answer stays as it was, whatever is put in behind it.
func TestAnswersStayAsTheyWere(t *testing.T) {
	x, m := merged(t, key.Standard(), lists(given("net.peers", "a,b")), []int{1})
	one, _ := x.Get("net.peers")
	all, before := x.All(), m.all()
	for n := range 10 {
		m.wantPut(t, x, "net.peers", words(slices.Repeat([]string{"w"}, n)...), 3, api.OK)
		m.wantPut(t, x, "net.port", integer(n+1), 3, api.OK)
	}
	if !slices.EqualFunc(all, before, alike) || !slices.Equal(one.Value.Words, []string{"a", "b"}) || one.From != 1 {
		t.Errorf("answers were written into: %+v; %+v", one, all)
	}
}

// inside: does a text stand in the memory of another one?
func inside(s, all string) bool {
	if s == "" || all == "" {
		return false
	}
	at, begin := uintptr(unsafe.Pointer(unsafe.StringData(s))), uintptr(unsafe.Pointer(unsafe.StringData(all)))
	return at >= begin && at < begin+uintptr(len(all))
}

func TestTextsThatAreHandedInAreNotKept(t *testing.T) {
	file := strings.Repeat("x", 1000) + "net.peersabc,de" + strings.Repeat("y", 1000)
	name, said := file[1000:1009], file[1009:1015]
	x, m := merged(t, key.Standard(), lists([]api.Given{{Name: name, Text: said}, {Name: "net.host", Text: said}}), []int{1})
	checkNothingInside(t, x, file)
	m.wantPut(t, x, name, words(file[1009:1012], file[1013:1015]), 2, api.OK)
	m.wantPut(t, x, "net.host", text(said), 2, api.OK)
	m.wantPut(t, x, "boot.services", words(file[1009:1012]), 2, api.OK)
	checkNothingInside(t, x, file)
	checkNothingInside(t, x.Copy(), file)
	wantHeld(t, x, "net.peers", words("abc", "de"), 2)
}

func checkNothingInside(t *testing.T, x *layer.Settings, file string) {
	t.Helper()
	for _, one := range x.All() {
		if inside(one.Name, file) || inside(one.Value.Text, file) || slices.ContainsFunc(one.Value.Words, func(word string) bool { return inside(word, file) }) {
			t.Errorf("%+v has pieces of what was handed in", one)
		}
	}
}

// Settings of one set know nothing of one another.
func TestSettingsOfOneSet(t *testing.T) {
	s := key.Standard()
	l := lists(given("net.port", "1", "net.peers", "a"))
	x, m := merged(t, s, l, []int{1})
	y, other := merged(t, s, l, []int{1})
	m.wantPut(t, x, "net.port", integer(2), 2, api.OK)
	m.wantPut(t, x, "log.file", text("x"), 2, api.OK)
	other.check(t, y)
	other.wantPut(t, y, "net.peers", words(), 2, api.OK)
	m.check(t, x)
	third, _ := merged(t, s, nil, nil)
	wantHeld(t, third, "net.port", integer(8080), api.FromDefault)
}

// Calls on things that have no part in common do not disturb one another, nor do calls that ask alone; refused ones leave nothing behind.
func TestCallsDoNotDisturbOneAnother(t *testing.T) {
	s, own := key.Standard(), ownSet()
	shared, m := merged(t, s, lists(given("net.peers", "a,b,c")), []int{1})
	var group sync.WaitGroup
	for worker := range 8 {
		group.Go(func() {
			r := numbers(100 + worker)
			for range 60 {
				checkMerge(t, s, lists(given("net.port", "1", "net.prot", "1")), []int{1})
				l, from := r.lists(own.All(), 8)
				x, of := merged(t, own, l, from)
				k := of.keys[r.next()%len(of.keys)]
				of.checkPut(t, x, k.Name, r.value(k), r.next()%6)
				m.check(t, shared)
				y, copied := shared.Copy(), m.copied()
				copied.checkPut(t, y, "net.port", integer(1+r.next()%9), 5)
				all := shared.All()
				spoil(all, api.Setting{})
			}
		})
	}
	group.Wait()
	m.check(t, shared)
}
