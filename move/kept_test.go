package move_test

import (
	"runtime"
	"slices"
	"strings"
	"sync"
	"testing"
	"unsafe"
	"weak"

	"tinderbox/api"
	"tinderbox/move"
)

// R2, R3

// What is asked ahead of main is answered as at every other time.
var (
	early                 = with(plain("b1"), plain("b1", "c1"), plain("a1", "b1", "c1"), plain("a0", "a0"))
	earlyAll              = early.All()
	earlyFound, earlyIs   = early.Find("a1")
	earlyNone, earlyIsNot = early.Find("a0")
	earlyTwice, earlyForm = early.Add(plain("a1")), early.Add(doing(retable("users", "moves")))
)

func TestCallsAheadOfMain(t *testing.T) {
	a1, b1 := plain("a1", "b1", "c1"), plain("b1")
	if !allSame(earlyAll, []api.Move{a1, b1}) || !same(earlyFound, a1) || !earlyIs || !same(earlyNone, api.Move{}) || earlyIsNot {
		t.Errorf("at start-up: %+v, %+v, %+v", earlyAll, earlyFound, earlyNone)
	}
	if earlyTwice != api.ErrMoveTwice || earlyForm != api.ErrMoveForm {
		t.Errorf("refused at start-up: %d, %d", earlyTwice, earlyForm)
	}
	model{"a1": a1, "b1": b1}.check(t, with(earlyAll...))
}

var spoiltMove = api.Move{ID: "spoilt", Needs: []string{"spoilt"}, Steps: []api.Step{spoiltStep}}
var spoiltStep = api.Step{Kind: 9, Table: "spoilt", Key: "spoilt", To: "spoilt", Text: "spoilt"}

// fill writes into a list, and into its spare room.
func fill[E any](list []E, with E) {
	list = list[:cap(list)]
	for i := range list {
		list[i] = with
	}
}

// spoil writes into a move's lists, and into their spare room.
func spoil(m api.Move) {
	fill(m.Needs, "spoilt")
	fill(m.Steps, spoiltStep)
}

// spoilAll writes into a list of moves, and into the lists within.
func spoilAll(moves []api.Move) {
	for _, m := range moves {
		spoil(m)
	}
	fill(moves, spoiltMove)
}

// roomy is a move like this one whose lists have spare room, which has marks.
func roomy(m api.Move) api.Move {
	m.Needs = slices.Grow(slices.Clone(m.Needs), 9)
	fill(m.Needs[len(m.Needs):], "mark")
	m.Steps = slices.Grow(slices.Clone(m.Steps), 9)
	fill(m.Steps[len(m.Steps):], spoiltStep)
	return m
}

// whole is a move with the spare room of its lists.
func whole(m api.Move) api.Move {
	m.Needs = slices.Clone(m.Needs[:cap(m.Needs)])
	m.Steps = slices.Clone(m.Steps[:cap(m.Steps)])
	return m
}

// What is handed in is not written into, nor its spare room, whether it is taken or refused.
func TestWhatIsHandedInStaysAsItWas(t *testing.T) {
	for _, s := range []*move.Set{with(), with(many(5)...), with(many(64)...)} {
		for _, m := range append(append(many(20), probes()...), plain("x", "c", "b", "b"), plain("y", "a", "y"), doing(wrongSteps()...)) {
			m = roomy(m)
			was := whole(m)
			s.Add(m)
			s.Find(m.ID)
			s.All()
			if !same(whole(m), was) {
				t.Errorf("%+v was %+v", whole(m), was)
			}
		}
	}
}

// What was handed in may be written into behind the call: the set is the same.
func TestWhatIsHandedInIsNotKept(t *testing.T) {
	for count := range 65 {
		s, x := move.New(), model{}
		for _, m := range many(count) {
			handed := roomy(m)
			x.add(t, s, handed)
			spoil(handed)
			x[m.ID] = m
		}
		x.check(t, s)
	}
	s, x := filled(t, plain("a"))
	if e := x.add(t, s, roomy(api.Move{ID: "b", Steps: []api.Step{root}})); e != api.OK {
		t.Errorf("Add: %d", e)
	}
	x.check(t, s)
}

// What comes out may be written into: neither the set nor another answer knows of it.
func TestWhatComesOutIsNewMemory(t *testing.T) {
	for count := range 65 {
		s, x := filled(t, many(count)...)
		one, two := s.All(), s.All()
		spoilAll(one)
		if !allSame(two, x.all()) {
			t.Errorf("another list was written into: %+v", two)
		}
		for id, m := range x {
			first, _ := s.Find(id)
			second, _ := s.Find(id)
			spoil(first)
			if !same(second, m) {
				t.Errorf("another answer was written into: %+v", second)
			}
		}
		x.check(t, s)
		if !allSame(two, x.all()) {
			t.Errorf("the list has a part in common with what Find told: %+v", two)
		}
	}
}

// No two lists of one answer share any memory.
func TestListsOfOneAnswerShareNone(t *testing.T) {
	moves := []api.Move{plain("a", "x", "y"), plain("b", "x", "y"), plain("c", "x"), plain("d"), plain("e", "x", "y", "z")}
	for at := range moves {
		s, _ := filled(t, moves...)
		all := s.All()
		spoil(all[at])
		for i, m := range all {
			if i != at && !same(m, moves[i]) {
				t.Errorf("%d was written into with %d: %+v", i, at, m)
			}
		}
	}
}

// A list that came out stays as it was, whatever is added behind it.
func TestListsThatComeOutStayAsTheyWere(t *testing.T) {
	s, x := move.New(), model{}
	var lists, wants [][]api.Move
	for _, m := range many(64) {
		lists, wants = append(lists, s.All()), append(wants, x.all())
		x.add(t, s, m)
	}
	for i, list := range lists {
		if !allSame(list, wants[i]) {
			t.Errorf("the list of %d: %+v", i, list)
		}
	}
}

// inside: does a text stand in the memory of another one?
func inside(s, all string) bool {
	if s == "" || all == "" {
		return false
	}
	at, begin := uintptr(unsafe.Pointer(unsafe.StringData(s))), uintptr(unsafe.Pointer(unsafe.StringData(all)))
	return at >= begin && at < begin+uintptr(len(all))
}

// Texts that are told are no pieces of those that were handed in.
func TestTextsThatAreHandedInAreNotKept(t *testing.T) {
	text := strings.Repeat("ab cd ef gh ij ", 20)
	ab, cd, ef, gh, ij := text[:2], text[3:5], text[6:8], text[9:11], text[12:14]
	s, _ := filled(t, api.Move{ID: cd, Needs: []string{ab, ef}, Steps: []api.Step{put(ab, cd, text[:200]), rename(ef, gh, ij), retable(gh, ij), drop(ij, ab)}})
	found, _ := s.Find(cd)
	for _, m := range append(s.All(), found) {
		texts := append(m.Needs, m.ID)
		for _, s := range m.Steps {
			texts = append(texts, s.Table, s.Key, s.To, s.Text)
		}
		for _, told := range texts {
			if inside(told, text) {
				t.Errorf("%q is a piece of what was handed in", told)
			}
		}
	}
}

// asked is a set, and what it told, of which a move and texts were asked that nobody has any more, and where these were.
//
//go:noinline
func asked(m api.Move) (*move.Set, []api.Move, []weak.Pointer[byte], weak.Pointer[string], weak.Pointer[api.Step]) {
	var texts []weak.Pointer[byte]
	text := func(s string) string {
		b := append(make([]byte, 0, 64), s+" "...)
		texts = append(texts, weak.Make(&b[0]))
		return unsafe.String(&b[0], len(b))[:len(s)]
	}
	needs, steps := []string{text("room")}, []api.Step{{}}
	for _, need := range m.Needs {
		needs = append(needs, text(need))
	}
	for _, s := range m.Steps {
		steps = append(steps, api.Step{Kind: s.Kind, Table: text(s.Table), Key: text(s.Key), To: text(s.To), Text: text(s.Text)})
	}
	s := with(plain("a"))
	s.Add(api.Move{ID: text(m.ID), Needs: needs[1:], Steps: steps[1:]})
	s.Find(text(m.ID))
	s.Find(text("none"))
	return s, s.All(), texts, weak.Make(&needs[0]), weak.Make(&steps[0])
}

func TestMemoryThatIsHandedInIsNotKept(t *testing.T) {
	for _, m := range append(many(12), append(probes(), doing(oneOfEach("users")...))...) {
		s, all, texts, needs, steps := asked(m)
		for range 3 {
			runtime.GC()
		}
		if needs.Value() != nil || steps.Value() != nil {
			t.Errorf("%+v: its lists are kept", m)
		}
		for at, text := range texts {
			if text.Value() != nil {
				t.Errorf("%+v: text %d is kept", m, at)
			}
		}
		runtime.KeepAlive(s)
		runtime.KeepAlive(all)
	}
}

// callAll makes calls of all kinds on sets of its own, those that are refused too.
func callAll(t *testing.T, seed int) {
	t.Helper()
	x := numbers(seed)
	for range 5 {
		s, m := move.New(), model{}
		for range 100 {
			m.add(t, s, x.move())
			spoilAll(s.All())
		}
		m.check(t, s)
	}
}

// Sets do not disturb one another, nor do calls that ask one set, or that are handed one move.
func TestCallsDoNotDisturbOneAnother(t *testing.T) {
	shared, x := filled(t, many(40)...)
	moves := many(64)
	var group sync.WaitGroup
	for worker := range 8 {
		group.Go(func() {
			callAll(t, 50+worker)
			own, m := filled(t, moves...)
			m.check(t, own)
			x.check(t, shared)
		})
	}
	group.Wait()
	if !allSame(moves, many(64)) {
		t.Errorf("moves were written into")
	}
}
