package lazy_test

import (
	"runtime"
	"slices"
	"testing"
	"weak"

	"tinderbox/api"
	"tinderbox/lazy"
)

// R2, R3

// What is asked ahead of main is answered as at every other time.
var (
	earlyMany, earlySaw, earlyErrno = lazy.Rush([]int{5, 6, 7}, [][]int{{0, 0, 2}, {}, {2, 0}})
	wrongMany, wrongSaw, wrongErrno = lazy.Rush([]int{5}, [][]int{{1}})
	earlyCell, earlyCalls           = counting("early")
	earlyGot                        = earlyCell.Get()
	laterCell, laterCalls           = counting("later")
	laterMade                       = laterCell.Made()
)

func TestCallsAheadOfMain(t *testing.T) {
	if earlyErrno != api.OK || !slices.Equal(earlyMany, []int{1, 0, 1}) || !allEqual(earlySaw, [][]int{{5, 5, 7}, {}, {7, 5}}) {
		t.Errorf("Rush at start-up: %v, %v, %d", earlyMany, earlySaw, earlyErrno)
	}
	if wrongErrno != api.ErrArg || len(wrongMany) != 0 || len(wrongSaw) != 0 {
		t.Errorf("a wrong Rush at start-up: %v, %v, %d", wrongMany, wrongSaw, wrongErrno)
	}
	if earlyGot != "early" || !earlyCell.Made() || earlyCell.Get() != "early" || *earlyCalls != 1 {
		t.Errorf("Get at start-up: %q, %q; %d", earlyGot, earlyCell.Get(), *earlyCalls)
	}
	if laterMade || laterCell.Get() != "later" || *laterCalls != 1 || !laterCell.Made() {
		t.Errorf("Made at start-up: %v; %q, %d", laterMade, laterCell.Get(), *laterCalls)
	}
}

// spoil writes into a list, and into its spare room.
func spoil[E any](list []E, with E) {
	list = list[:cap(list)]
	for i := range list {
		list[i] = with
	}
}

// spoilAnswer writes into all that came out.
func spoilAnswer(many []int, saw [][]int) {
	spoil(many, -77)
	for _, list := range saw[:cap(saw)] {
		spoil(list, -77)
	}
	spoil(saw, []int{-77})
}

func TestListsThatComeOutAreNewMemory(t *testing.T) {
	cells, workers := numbered(9), [][]int{{0, 1, 2, 3}, {}, nil, {3, 2}, {0, 1, 2, 3}, {8}}
	one, oneSaw := checkRush(t, cells, workers)
	two, twoSaw := checkRush(t, cells, workers)
	wasCells, wasWorkers := slices.Clone(cells), copied(workers)
	wantMany, wantSaw, _ := rushByWords(cells, workers)
	spoilAnswer(one, oneSaw)
	if !slices.Equal(two, wantMany) || !allEqual(twoSaw, wantSaw) {
		t.Errorf("another answer was written into: %v, %v", two, twoSaw)
	}
	if !slices.Equal(cells, wasCells) || !allEqual(workers, wasWorkers) {
		t.Errorf("what was handed in was written into: %v, %v", cells, workers)
	}
	checkRush(t, cells, workers)
}

// No two lists of one answer share any memory.
func TestListsOfOneAnswerShareNothing(t *testing.T) {
	cells, workers := numbered(5), [][]int{{0, 1, 2}, {0, 1, 2}, {}, {4}, {}, {0, 1, 2}, {3, 3, 3, 3, 3}}
	wantMany, wantSaw, _ := rushByWords(cells, workers)
	for spoilt := range len(workers) + 1 {
		many, saw := checkRush(t, cells, workers)
		if spoilt < len(workers) {
			spoil(saw[spoilt], -77)
		} else {
			spoil(many, -77)
		}
		for i, list := range saw {
			if i != spoilt && !slices.Equal(list, wantSaw[i]) {
				t.Errorf("list %d was written into with list %d: %v", i, spoilt, list)
			}
		}
		if spoilt < len(workers) && !slices.Equal(many, wantMany) {
			t.Errorf("the numbers were written into with list %d: %v", spoilt, many)
		}
	}
}

// What is written into lists behind the call bears upon nothing.
func TestListsThatAreHandedInAreNotLookedAtAgain(t *testing.T) {
	cells, workers := numbered(5), [][]int{{0, 1}, {4}, {}}
	many, saw, e := lazy.Rush(cells, workers)
	wantMany, wantSaw, _ := rushByWords(cells, workers)
	spoil(cells, -5)
	for _, list := range workers {
		spoil(list, 3)
	}
	spoil(workers, []int{2})
	if e != api.OK || !slices.Equal(many, wantMany) || !allEqual(saw, wantSaw) {
		t.Errorf("%v, %v, %d; not %v, %v", many, saw, e, wantMany, wantSaw)
	}
	checkRush(t, cells, workers)
}

// wantGone: is what these point to not kept by anything any more?
func wantGone[T any](t *testing.T, what string, of ...weak.Pointer[T]) {
	t.Helper()
	for range 3 {
		runtime.GC()
	}
	for i, one := range of {
		if one.Value() != nil {
			t.Errorf("%s is kept: %d", what, i)
		}
	}
}

// rushed are what Rush told of lists that nobody has any more, and where these were.
//
//go:noinline
func rushed(wrong int) ([]int, [][]int, []weak.Pointer[int], weak.Pointer[[]int]) {
	r := numbers(7)
	cells, workers := numbered(100), [][]int{r.list(50, 100), {99, wrong, 7, 8, 9, 10, 11}}
	lists := []weak.Pointer[int]{weak.Make(&cells[0]), weak.Make(&workers[0][0]), weak.Make(&workers[1][0])}
	outer := weak.Make(&workers[0])
	many, saw, _ := lazy.Rush(cells, workers)
	return many, saw, lists, outer
}

func TestListsThatAreHandedInAreNotKept(t *testing.T) {
	for _, wrong := range []int{0, -1, 100} {
		many, saw, lists, outer := rushed(wrong)
		wantGone(t, "a list", lists...)
		wantGone(t, "the workers' list", outer)
		if wrong == 0 && (len(many) != 100 || len(saw) != 2 || len(saw[0]) != 50) {
			t.Errorf("%v, %v", many, saw)
		}
		runtime.KeepAlive(saw)
	}
}

// holding is a cell whose make holds something great, and where that is.
//
//go:noinline
func holding() (*lazy.Cell[int], weak.Pointer[[1 << 16]int]) {
	great := new([1 << 16]int)
	great[5] = 7
	return lazy.New(func() int { return great[5] }), weak.Make(great)
}

// A make is not called again: behind it nothing of it need be kept.
func TestAMakeIsNotKept(t *testing.T) {
	c, great := holding()
	other, still := holding()
	runtime.GC()
	if great.Value() == nil || still.Value() == nil {
		t.Error("a make lost what it holds")
	}
	if c.Get() != 7 {
		t.Errorf("%d", c.Get())
	}
	wantGone(t, "what a make holds", great)
	if still.Value() == nil || other.Get() != 7 || c.Get() != 7 || !c.Made() {
		t.Errorf("%d, %d, %v", other.Get(), c.Get(), c.Made())
	}
	runtime.KeepAlive(c)
}
