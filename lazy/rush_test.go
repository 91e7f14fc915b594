package lazy_test

import (
	"math"
	"slices"
	"testing"

	"tinderbox/api"
	"tinderbox/lazy"
)

// Z2: the chapter's examples

func wantRush(t *testing.T, cells []int, workers [][]int, wantMany []int, wantSaw [][]int) {
	t.Helper()
	many, saw := checkRush(t, cells, workers)
	if !slices.Equal(many, wantMany) || !allEqual(saw, wantSaw) {
		t.Errorf("Rush of %v, %v: %v, %v", cells, workers, many, saw)
	}
}

func wantErrArg(t *testing.T, cells []int, workers [][]int) {
	t.Helper()
	checkRush(t, cells, workers)
	if many, saw, e := lazy.Rush(cells, workers); e != api.ErrArg || len(many) != 0 || len(saw) != 0 {
		t.Errorf("Rush of %d cells, %d workers: %v, %v, %d", len(cells), len(workers), many, saw, e)
	}
}

func TestRushExamples(t *testing.T) {
	wantRush(t, []int{5, 6, 7}, [][]int{{0, 0, 2}, {}, {2, 0}}, []int{1, 0, 1}, [][]int{{5, 5, 7}, {}, {7, 5}})
	wantRush(t, []int{}, [][]int{{}}, nil, [][]int{{}})
	wantErrArg(t, []int{5}, [][]int{{1}})
	wantErrArg(t, []int{5}, [][]int{{-1}})
	wantErrArg(t, make([]int, 257), nil)
	wantErrArg(t, nil, make([][]int, 17))
}

// Z2: what is told

func TestRushOfNothing(t *testing.T) {
	for _, cells := range [][]int{nil, {}} {
		for _, workers := range [][][]int{nil, {}} {
			wantRush(t, cells, workers, nil, nil)
		}
		for _, workers := range [][][]int{{nil}, {{}}, {{}, nil, {}}, make([][]int, 16)} {
			wantRush(t, cells, workers, nil, make([][]int, len(workers)))
		}
	}
	// Without somebody who asks nothing is made.
	wantRush(t, []int{5, 6}, nil, []int{0, 0}, nil)
	wantRush(t, []int{5, 6}, [][]int{{}, nil}, []int{0, 0}, [][]int{{}, {}})
	wantRush(t, make([]int, 256), make([][]int, 16), make([]int, 256), make([][]int, 16))
}

func TestRushOfSeveralSorts(t *testing.T) {
	// A place several times in one list, and in several ones.
	wantRush(t, []int{5}, [][]int{{0}}, []int{1}, [][]int{{5}})
	wantRush(t, []int{5}, [][]int{{0, 0, 0}}, []int{1}, [][]int{{5, 5, 5}})
	wantRush(t, []int{5}, [][]int{{0}, {0}, {0, 0}}, []int{1}, [][]int{{5}, {5}, {5, 5}})
	wantRush(t, []int{5, 6}, [][]int{{1, 0, 1}, {0, 1, 0}}, []int{1, 1}, [][]int{{6, 5, 6}, {5, 6, 5}})
	// Cells that stand in no list, ahead of others, between them and behind them.
	wantRush(t, []int{5, 6, 7}, [][]int{{1}, {1}}, []int{0, 1, 0}, [][]int{{6}, {6}})
	wantRush(t, []int{5, 6, 7}, [][]int{{2}, {0}}, []int{1, 0, 1}, [][]int{{7}, {5}})
	wantRush(t, []int{5, 6, 7}, [][]int{{}, {}, {2, 2}}, []int{0, 0, 1}, [][]int{{}, {}, {7, 7}})
	// One number in several cells, of which each is a cell of its own.
	wantRush(t, []int{5, 5, 5}, [][]int{{0, 2}, {2}}, []int{1, 0, 1}, [][]int{{5, 5}, {5}})
	wantRush(t, []int{0, 0}, [][]int{{1}, {}}, []int{0, 1}, [][]int{{0}, {}})
	// A number is no place.
	wantRush(t, []int{1, 0, 2}, [][]int{{0}, {0, 1}}, []int{1, 1, 0}, [][]int{{1}, {1, 0}})
	// Numbers of each size.
	wantRush(t, []int{math.MinInt, -1, math.MaxInt, 0}, [][]int{{2, 0}, {3, 1}}, []int{1, 1, 1, 1}, [][]int{{math.MaxInt, math.MinInt}, {0, -1}})
}

// All lists of up to two places, and wrong ones, for each two workers; longer ones for one and for three.
func TestAllSmallRushes(t *testing.T) {
	cells := []int{5, -6, 5}
	var short, long [][]int
	for length := range 5 {
		for n := range power(5, length) {
			list := make([]int, length)
			for i := range list {
				list[i] = n%5 - 1
				n /= 5
			}
			long = append(long, list)
			if length <= 2 {
				short = append(short, list)
			}
		}
	}
	for count := range len(cells) + 1 {
		for _, one := range long {
			checkRush(t, cells[:count], [][]int{one})
		}
		for _, one := range short {
			for _, two := range short {
				checkRush(t, cells[:count], [][]int{one, two})
			}
		}
		for _, one := range short[:6] {
			for _, two := range short[:6] {
				for _, three := range short[:6] {
					checkRush(t, cells[:count], [][]int{one, two, three})
				}
			}
		}
	}
}

func power(n, times int) int {
	all := 1
	for range times {
		all *= n
	}
	return all
}

func TestRandomRushes(t *testing.T) {
	r := numbers(2)
	for range 2000 {
		cells := r.list(r.next()%20, 10)
		workers := make([][]int, r.next()%17)
		for i := range workers {
			if len(cells) > 0 {
				workers[i] = r.list(r.next()%10, len(cells))
			}
		}
		checkRush(t, cells, workers)
		// One number changed, to what may be or may not.
		if len(workers) > 0 {
			if list := workers[r.next()%len(workers)]; len(list) > 0 {
				list[r.next()%len(list)] = r.next()%(len(cells)+4) - 2
				checkRush(t, cells, workers)
			}
		}
	}
}

// Z2: how many there may be

func TestAsManyAsThereMayBe(t *testing.T) {
	r := numbers(3)
	for _, count := range []int{255, 256, 257, 258, 512, 1000} {
		for _, workers := range []int{0, 1, 15, 16, 17, 18, 32, 100} {
			lists := make([][]int, workers)
			cells := r.list(count, 1000)
			check := func() {
				t.Helper()
				checkRush(t, cells, lists)
				if count > 256 || workers > 16 {
					wantErrArg(t, cells, lists)
				} else if _, _, e := lazy.Rush(cells, lists); e != api.OK {
					t.Errorf("Rush of %d cells, %d workers: %d", count, workers, e)
				}
			}
			check()
			for i := range lists {
				lists[i] = []int{i * 2, count - 1, 0, min(255, count-1)}
			}
			check()
		}
	}
	wantErrArg(t, make([]int, 1<<16), nil)
	wantErrArg(t, nil, make([][]int, 1<<16))
	// How long a list is has no bound.
	wantRush(t, []int{5, 6}, [][]int{slices.Repeat([]int{1, 1, 1}, 1<<18)}, []int{0, 1}, [][]int{slices.Repeat([]int{6}, 3<<18)})
}

// Z2: places that are none

func TestPlacesThatAreNone(t *testing.T) {
	for _, count := range []int{0, 1, 2, 3, 255, 256} {
		cells := make([]int, count)
		for _, wrong := range []int{-1, -2, -255, -256, -257, count, count + 1, 256, 257, 1 << 16, 1 << 32, 1<<32 + 1, -1 << 32, math.MaxInt, math.MinInt} {
			for _, workers := range []int{1, 2, 3, 16} {
				for at := range workers {
					lists := make([][]int, workers)
					if count > 0 {
						for i := range lists {
							lists[i] = []int{0, count - 1, count / 2}
						}
					}
					right := lists[at]
					for place := range len(right) + 1 {
						lists[at] = slices.Insert(slices.Clone(right), place, wrong)
						wantErrArg(t, cells, lists)
					}
					lists[at] = right
					wantRush(t, cells, lists, ones(count, right), zeros(lists))
				}
			}
		}
	}
}

// ones are how often so many cells were made, if a list has some.
func ones(count int, list []int) []int {
	many := make([]int, count)
	for _, at := range list {
		many[at] = 1
	}
	return many
}

// zeros are what workers see of cells of 0.
func zeros(lists [][]int) [][]int {
	saw := make([][]int, len(lists))
	for i, list := range lists {
		saw[i] = make([]int, len(list))
	}
	return saw
}

func TestSeveralErrorsAtOnce(t *testing.T) {
	for _, count := range []int{0, 3, 256, 257, 300} {
		for _, workers := range []int{1, 16, 17, 40} {
			for _, wrong := range []int{-1, count, 0} {
				for _, at := range []int{0, workers / 2, workers - 1} {
					cells, lists := make([]int, count), make([][]int, workers)
					lists[at] = []int{wrong}
					if count > 256 || workers > 16 || wrong != 0 || count == 0 {
						wantErrArg(t, cells, lists)
					} else {
						wantRush(t, cells, lists, ones(count, lists[at]), zeros(lists))
					}
				}
			}
		}
	}
	wantErrArg(t, []int{5}, [][]int{{-1}, {1}, {-1, 1}})
}
