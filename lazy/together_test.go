package lazy_test

import (
	"runtime"
	"sync"
	"sync/atomic"
	"testing"
	"time"

	"tinderbox/lazy"
)

// Z1: many that ask at one time. Where a test writes without a lock, the race detector tells whether a Get waits for what a make does.

// together calls f in so many goroutines at one time, and waits for all of them.
func together(count int, f func(worker int)) {
	var group sync.WaitGroup
	begin := make(chan struct{})
	for worker := range count {
		group.Go(func() {
			<-begin
			f(worker)
		})
	}
	close(begin)
	group.Wait()
}

// running is a cell of 7 whose make runs: it was called, waits till goOn is closed, and then writes told.
type running struct {
	*lazy.Cell[int]
	goOn  chan struct{}
	told  int
	many  atomic.Int32
	group sync.WaitGroup
}

func run() *running {
	r := &running{goOn: make(chan struct{})}
	begun := make(chan struct{}, 100)
	r.Cell = lazy.New(func() int {
		r.many.Add(1)
		begun <- struct{}{}
		<-r.goOn
		r.told = 1
		return 7
	})
	r.group.Go(func() { r.Get() })
	<-begun
	return r
}

// giveWay lets others run who can.
func giveWay() {
	for range 100 {
		runtime.Gosched()
	}
	time.Sleep(5 * time.Millisecond)
}

func TestAGetWaitsForAMakeThatRuns(t *testing.T) {
	for _, count := range []int{1, 2, 16, 200} {
		r := run()
		var came, answered atomic.Int32
		for range count {
			r.group.Go(func() {
				came.Add(1)
				got := r.Get()
				answered.Add(1)
				if got != 7 || r.told != 1 || !r.Made() {
					t.Errorf("%d, %d, %v", got, r.told, r.Made())
				}
			})
		}
		for came.Load() != int32(count) {
			giveWay()
		}
		giveWay()
		if answered.Load() != 0 || r.many.Load() != 1 {
			t.Errorf("%d of %d were answered while the make ran, which was called %d times", answered.Load(), count, r.many.Load())
		}
		close(r.goOn)
		r.group.Wait()
		if answered.Load() != int32(count) || r.many.Load() != 1 {
			t.Errorf("%d of %d were answered; the make was called %d times", answered.Load(), count, r.many.Load())
		}
	}
}

// Made tells of a make that runs that it has told nothing, and does not wait for it.
func TestMadeDoesNotWait(t *testing.T) {
	r := run()
	together(8, func(int) {
		for range 100 {
			if r.Made() {
				t.Error("made while its make ran")
			}
		}
	})
	close(r.goOn)
	r.group.Wait()
	if !r.Made() {
		t.Error("not made behind its make")
	}
}

// While the make of one cell runs others are made.
func TestCellsDoNotWaitForOneAnother(t *testing.T) {
	r, other := run(), run()
	together(8, func(worker int) {
		c, many := counting(worker)
		if c.Made() || c.Get() != worker || c.Get() != worker || !c.Made() || *many != 1 {
			t.Errorf("%d, %v, %d", c.Get(), c.Made(), *many)
		}
	})
	close(other.goOn)
	if other.Get() != 7 || !other.Made() || r.Made() {
		t.Errorf("%d, %v; %v", other.Get(), other.Made(), r.Made())
	}
	// Nor for a make that asks another cell, which asks none of them.
	asking := lazy.New(func() int { return r.Get() + 1 })
	r.group.Go(func() {
		if got := asking.Get(); got != 8 {
			t.Errorf("%d", got)
		}
	})
	giveWay()
	if other.Get() != 7 || asking.Made() {
		t.Errorf("%d; %v", other.Get(), asking.Made())
	}
	close(r.goOn)
	r.group.Wait()
	other.group.Wait()
	if r.many.Load() != 1 || other.many.Load() != 1 || !asking.Made() {
		t.Errorf("%d, %d, %v", r.many.Load(), other.many.Load(), asking.Made())
	}
}

func TestManyGetsAtOneTime(t *testing.T) {
	for round := range 500 {
		var many atomic.Int32
		written := 0
		c := lazy.New(func() []int {
			many.Add(1)
			if round%2 == 0 {
				runtime.Gosched()
			}
			written++
			return []int{round, written}
		})
		together(1+round%32, func(int) {
			for range 1 + round%3 {
				if got := c.Get(); len(got) != 2 || got[0] != round || got[1] != 1 || written != 1 || !c.Made() {
					t.Errorf("round %d: %v, %d, %v", round, got, written, c.Made())
				}
			}
		})
		if many.Load() != 1 || !c.Made() {
			t.Fatalf("round %d: its make was called %d times", round, many.Load())
		}
	}
}

// What Made has told once stays; and who was told it gets what was made.
func TestMadeAndGetAtOneTime(t *testing.T) {
	for round := range 300 {
		var many atomic.Int32
		c := lazy.New(func() int {
			runtime.Gosched()
			return int(many.Add(1)) * 7
		})
		together(12, func(worker int) {
			made := false
			for range 20 {
				switch now := c.Made(); {
				case made && !now:
					t.Error("it was made, and is not")
				case now && (many.Load() != 1 || c.Get() != 7):
					t.Errorf("made, but %d, %d", many.Load(), c.Get())
				case worker%3 == round%3 && c.Get() != 7:
					t.Errorf("%d", c.Get())
				default:
					made = now
				}
			}
		})
		if many.Load() != 1 || !c.Made() {
			t.Fatalf("round %d: its make was called %d times", round, many.Load())
		}
	}
}

// Of many cells some are asked by all, each worker in an order of its own.
func TestManyCellsAskedByMany(t *testing.T) {
	const count, workers = 200, 16
	r := numbers(1)
	for range 20 {
		cells, many := make([]*lazy.Cell[int], count), make([]atomic.Int32, count)
		for i := range cells {
			cells[i] = lazy.New(func() int {
				many[i].Add(1)
				return -i
			})
		}
		var orders [workers][]int
		for i := range orders {
			orders[i] = r.row(count)
		}
		together(workers, func(worker int) {
			for _, i := range orders[worker] {
				if i%3 != 0 && cells[i].Get() != -i {
					t.Errorf("cell %d told %d", i, cells[i].Get())
				}
			}
		})
		for i := range cells {
			if asked := i%3 != 0; cells[i].Made() != asked || (many[i].Load() == 1) != asked || many[i].Load() > 1 {
				t.Fatalf("cell %d: %v, %d", i, cells[i].Made(), many[i].Load())
			}
		}
	}
}

// Rows of makes that ask one another are made once, whoever asks which one first.
func TestRowsAskedAtOneTime(t *testing.T) {
	const count = 64
	for range 50 {
		cells, many := row(count)
		together(16, func(worker int) {
			for n := range count {
				at := (n*7 + worker*4) % count
				if got := cells[at].Get(); got != count-at || many[at] != 1 {
					t.Errorf("cell %d told %d; %d", at, got, many[at])
				}
			}
		})
		for at, calls := range many {
			if calls != 1 {
				t.Errorf("the make of cell %d was called %d times", at, calls)
			}
		}
	}
}
