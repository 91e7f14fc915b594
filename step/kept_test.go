package step_test

import (
	"runtime"
	"slices"
	"strings"
	"sync"
	"testing"
	"unsafe"
	"weak"

	"tinderbox/api"
	"tinderbox/step"
)

// R2, R3

// What is asked ahead of main is answered as at every other time.
var (
	earlyRight, earlyWrong      = step.Right(mapBy("a", "double")), step.Right(mapBy("a", "none"))
	earlyPairs, earlyErrno      = step.Apply(example(), mapBy("b", "double"))
	earlyTaken, earlyTakenErrno = step.Apply(example(), put("a", "k", "7"))
	earlyNone, earlyNoneErrno   = step.Apply(pairs("b/k=1", "a/k=1"), drop("a", ""))
)

func TestCallsAheadOfMain(t *testing.T) {
	if !earlyRight || earlyWrong {
		t.Errorf("Right at start-up: %t, %t", earlyRight, earlyWrong)
	}
	if !slices.Equal(earlyPairs, pairs("a/k=1", "a/m=x", "b/k=4")) || earlyErrno != api.OK {
		t.Errorf("Apply at start-up: %s, %d", written(earlyPairs), earlyErrno)
	}
	if len(earlyTaken) != 0 || earlyTakenErrno != api.ErrStepTaken || len(earlyNone) != 0 || earlyNoneErrno != api.ErrArg {
		t.Errorf("refused at start-up: %d, %d", earlyTakenErrno, earlyNoneErrno)
	}
}

// spoil writes into a list, and into its spare room.
func spoil[E any](list []E, with E) {
	list = list[:cap(list)]
	for i := range list {
		list[i] = with
	}
}

var spoilt = api.Pair{Table: "spoilt", Key: "spoilt", Value: "spoilt"}

// Neither lists that are handed in nor their spare room are written into; those that come out, and their spare room, belong to whom they were given.
func TestListsAreNewMemory(t *testing.T) {
	x := numbers(8)
	for range 4000 {
		l := x.pairs(20)
		roomy := slices.Grow(slices.Clone(l), 9)
		spoil(roomy[len(roomy):], spoilt)
		was := slices.Clone(roomy[:cap(roomy)])
		s := x.step()
		one, e := checkApply(t, roomy, s)
		two, _ := checkApply(t, roomy, s)
		three, _ := checkApply(t, roomy[:len(roomy):len(roomy)], s)
		spoil(one, spoilt)
		if want, _ := applyByWords(l, s); !slices.Equal(two, want) || !slices.Equal(three, want) {
			t.Errorf("another answer was written into: %s, %s", written(two), written(three))
		}
		spoil(two, spoilt)
		spoil(three, spoilt)
		if !slices.Equal(roomy[:cap(roomy)], was) {
			t.Errorf("%+v, %d: %s was %s", s, e, written(roomy[:cap(roomy)]), written(was))
		}
	}
}

// Also where nothing is changed, a list that comes out is another one.
func TestWhatChangesNothingTellsAnotherList(t *testing.T) {
	for _, s := range []api.Step{drop("q", ""), drop("a", "z"), rename("a", "q", "m"), retable("q", "b"), mapBy("q", "double"), mapBy("a", "lower"), copyTo("a", "q", "m")} {
		l := example()
		got := apply(t, l, s)
		spoil(got, spoilt)
		if !slices.Equal(l, example()) {
			t.Errorf("%+v: what is told is what was handed in", s)
		}
		got = apply(t, l, s)
		spoil(l, spoilt)
		if !slices.Equal(got, example()) {
			t.Errorf("%+v: what was handed in is what is told", s)
		}
	}
}

// inside: does a text stand in the memory of another one?
func inside(s, all string) bool {
	if s == "" || all == "" {
		return false
	}
	at, begin := uintptr(unsafe.Pointer(unsafe.StringData(s))), uintptr(unsafe.Pointer(unsafe.StringData(all)))
	return at >= begin && at < begin+uintptr(len(all))
}

// Texts that are told are no pieces of those that were handed in.
func TestTextsThatAreHandedInAreNotKept(t *testing.T) {
	text := strings.Repeat("ab cd ef gh 12 ", 20)
	ab, cd, ef, gh, number := text[:2], text[3:5], text[6:8], text[9:11], text[12:14]
	l := []api.Pair{{Table: ab, Key: cd, Value: text[:150]}, {Table: cd, Key: ab, Value: number}, {Table: cd, Key: cd, Value: number}}
	steps := []api.Step{put(ef, gh, number), put(cd, gh, text[:200]), drop(cd, ""), drop(cd, cd), rename(ab, cd, ef), rename(cd, ab, ef), retable(cd, gh), copyTo(ab, cd, gh), drop(gh, "")}
	for _, name := range theFunctions {
		steps = append(steps, mapBy(cd, name))
	}
	for _, s := range steps {
		for _, p := range apply(t, l, s) {
			if inside(p.Table, text) || inside(p.Key, text) || inside(p.Value, text) {
				t.Errorf("%+v: %+v has a piece of what was handed in", s, p)
			}
		}
	}
	for _, name := range theFunctions {
		for _, value := range []string{number, text[2:12], text[:200], ab} {
			if made, _ := checkCall(t, name, value); inside(made, text) {
				t.Errorf("%s of %q is a piece of it", name, value)
			}
		}
	}
}

// asked is what calls told of a list and texts that nobody has any more, and where these were.
//
//go:noinline
func asked(s api.Step) ([]api.Pair, string, weak.Pointer[api.Pair], []weak.Pointer[byte]) {
	var texts []weak.Pointer[byte]
	text := func(s string) string {
		b := append(make([]byte, 0, 64), s...)
		texts = append(texts, weak.Make(&b[0]))
		return unsafe.String(&b[0], len(b))
	}
	l := []api.Pair{{Table: text("a"), Key: text("k"), Value: text("1")}, {Table: text("b"), Key: text("k"), Value: text("2")}}
	s.Table, s.Key, s.To, s.Text = text(s.Table + " ")[:len(s.Table)], text(s.Key + " ")[:len(s.Key)], text(s.To + " ")[:len(s.To)], text(s.Text + " ")[:len(s.Text)]
	step.Right(s)
	got, _ := step.Apply(l, s)
	made, _ := step.Call(text("trim"), text(" 12 "))
	return got, made, weak.Make(&l[0]), texts
}

func TestListsThatAreHandedInAreNotKept(t *testing.T) {
	for _, s := range append(someSteps(), wrongSteps()...) {
		got, made, l, texts := asked(s)
		for range 3 {
			runtime.GC()
		}
		if l.Value() != nil {
			t.Errorf("%+v: the list is kept", s)
		}
		for at, text := range texts {
			if text.Value() != nil {
				t.Errorf("%+v: text %d is kept", s, at)
			}
		}
		runtime.KeepAlive(got)
		runtime.KeepAlive(made)
	}
}

// callAll makes calls of all kinds, those that are refused too.
func callAll(t *testing.T, seed int) {
	t.Helper()
	x := numbers(100 + seed)
	for range 300 {
		checkApply(t, x.pairs(20), x.step())
		checkRight(t, x.step())
		checkCall(t, x.function(), x.value())
		spoil(step.Functions(), "spoilt")
	}
	for _, l := range no() {
		checkApply(t, l, x.step())
	}
}

// Calls do not disturb one another, nor do calls that ask of one list.
func TestCallsDoNotDisturbOneAnother(t *testing.T) {
	shared := slices.Grow(example(), 9)
	var group sync.WaitGroup
	for worker := range 8 {
		group.Go(func() {
			callAll(t, 50+worker)
			for range 100 {
				for _, s := range append(someSteps(), wrongSteps()...) {
					checkApply(t, shared, s)
				}
				wantFunctions(t, step.Functions())
			}
		})
	}
	group.Wait()
	if !slices.Equal(shared, example()) {
		t.Errorf("the list was written into: %s", written(shared))
	}
}
