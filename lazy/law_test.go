package lazy_test

import (
	"runtime"
	"slices"
	"testing"
	"time"

	"tinderbox/api"
	"tinderbox/lazy"
)

// Z3

// wantNoneLeft: no more goroutines than there were. One that has ended may be counted for a moment still.
func wantNoneLeft(t *testing.T, before int) {
	t.Helper()
	for range 1000 {
		if runtime.NumGoroutine() <= before {
			return
		}
		time.Sleep(time.Millisecond)
	}
	t.Errorf("%d goroutines; there were %d", runtime.NumGoroutine(), before)
}

// manyRush rushes again and again. What comes out is written into at once: the race detector tells if a worker is still at it.
func manyRush(t *testing.T, rounds int, cells []int, workers [][]int) {
	t.Helper()
	before := runtime.NumGoroutine()
	wantMany, wantSaw, _ := rushByWords(cells, workers)
	for range rounds {
		many, saw, e := lazy.Rush(cells, workers)
		if e != api.OK || !slices.Equal(many, wantMany) || !allEqual(saw, wantSaw) {
			t.Fatalf("Rush of %v, %v: %v, %v, %d", cells, workers, many, saw, e)
		}
		spoilAnswer(many, saw)
	}
	wantNoneLeft(t, before)
}

// numbered are so many cells of numbers of their own.
func numbered(count int) []int {
	cells := make([]int, count)
	for at := range cells {
		cells[at] = 1000 - at*at
	}
	return cells
}

func TestManyWorkersOfTheSameCells(t *testing.T) {
	for _, count := range []int{1, 2, 10, 256} {
		forth := make([]int, count)
		for at := range forth {
			forth[at] = at
		}
		back := slices.Clone(forth)
		slices.Reverse(back)
		cells := numbered(count)
		for _, workers := range []int{2, 8, 16} {
			manyRush(t, 100, cells, slices.Repeat([][]int{forth}, workers))
			manyRush(t, 100, cells, slices.Repeat([][]int{forth, back}, workers/2))
			manyRush(t, 100, cells, slices.Repeat([][]int{slices.Concat(back, forth, back)}, workers))
		}
	}
}

// Some cells stand in no list, whatever the order of the others.
func TestManyWorkersOfSomeCells(t *testing.T) {
	r := numbers(4)
	for range 100 {
		count := 1 + r.next()%256
		some := r.row(count)[:r.next()%count]
		workers := make([][]int, 16)
		for i := range workers {
			for _, at := range r.row(len(some)) {
				workers[i] = append(workers[i], some[at])
			}
		}
		manyRush(t, 5, numbered(count), workers)
		for i := range workers {
			workers[i] = workers[i][:len(some)*i/15]
		}
		manyRush(t, 5, numbered(count), workers)
	}
}

// Whatever the workers do, the same is told at every time.
func TestOneProcessorAndSeveral(t *testing.T) {
	defer runtime.GOMAXPROCS(runtime.GOMAXPROCS(0))
	r := numbers(5)
	for _, processors := range []int{1, 2, 3, 16, 64} {
		runtime.GOMAXPROCS(processors)
		workers := make([][]int, 16)
		for i := range workers {
			workers[i] = r.list(500, 100)
		}
		manyRush(t, 50, numbered(200), workers)
	}
}

// Rushes at one time do not disturb one another, also of the same lists.
func TestRushesAtOneTime(t *testing.T) {
	before := runtime.NumGoroutine()
	cells, workers := numbered(50), make([][]int, 16)
	r := numbers(6)
	for i := range workers {
		workers[i] = r.list(60, 40)
	}
	wantMany, wantSaw, _ := rushByWords(cells, workers)
	together(16, func(worker int) {
		r := numbers(100 + worker)
		for range 30 {
			many, saw, e := lazy.Rush(cells, workers)
			if e != api.OK || !slices.Equal(many, wantMany) || !allEqual(saw, wantSaw) {
				t.Errorf("%v, %v, %d", many, saw, e)
			}
			spoilAnswer(many, saw)
			checkRush(t, r.list(9, 100), [][]int{r.list(5, 9), r.list(5, 9), r.list(5, 10)})
		}
	})
	wantNoneLeft(t, before)
}

// Nor is one left behind what is refused.
func TestNoGoroutineIsLeftBehindAnError(t *testing.T) {
	before := runtime.NumGoroutine()
	lists := slices.Repeat([][]int{{0, 1, 2}}, 16)
	for range 100 {
		wantErrArg(t, numbered(257), lists)
		wantErrArg(t, numbered(256), slices.Concat(lists, lists))
		wantErrArg(t, numbered(2), lists)
		wantErrArg(t, numbered(3), slices.Concat(lists[:15], [][]int{{0, -1}}))
	}
	wantNoneLeft(t, before)
}
