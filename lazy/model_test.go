package lazy_test

import (
	"slices"
	"testing"

	"tinderbox/api"
	"tinderbox/lazy"
)

// numbers gives the same numbers in every run.
type numbers uint64

func (x *numbers) next() int {
	*x = *x*6364136223846793005 + 1442695040888963407
	return int(*x >> 33)
}

// list is one of so many numbers below a bound.
func (x *numbers) list(length, bound int) []int {
	list := make([]int, length)
	for i := range list {
		list[i] = x.next() % bound
	}
	return list
}

// row is some order of so many places.
func (x *numbers) row(count int) []int {
	row := make([]int, count)
	for i := range row {
		at := x.next() % (i + 1)
		row[i], row[at] = row[at], i
	}
	return row
}

// rushByWords is what Rush must answer, by the chapter's words: Z2's of what is refused, Z3's of the rest.
func rushByWords(cells []int, workers [][]int) ([]int, [][]int, api.Errno) {
	asked := slices.Concat(workers...)
	if len(cells) > 256 || len(workers) > 16 || slices.ContainsFunc(asked, func(at int) bool { return at < 0 || at > len(cells)-1 }) {
		return nil, nil, api.ErrArg
	}
	var many []int
	for at := range cells {
		if slices.Contains(asked, at) {
			many = append(many, 1)
		} else {
			many = append(many, 0)
		}
	}
	var saw [][]int
	for _, list := range workers {
		var one []int
		for _, at := range list {
			one = append(one, cells[at])
		}
		saw = append(saw, one)
	}
	return many, saw, api.OK
}

// roomy is a list with spare room, in which something stands.
func roomy(list []int) []int {
	with := slices.Grow(slices.Clone(list), 3)
	for i := range with[len(list):cap(with)] {
		with[:cap(with)][len(list)+i] = -99
	}
	return with
}

func roomyLists(lists [][]int) [][]int {
	with := make([][]int, len(lists), len(lists)+2)
	for i, list := range lists {
		with[i] = roomy(list)
	}
	with[:len(lists)+2][len(lists)] = roomy([]int{-98})
	return with
}

func allEqual(a, b [][]int) bool {
	return slices.EqualFunc(a, b, slices.Equal)
}

// same: are lists the same, their spare room too?
func same(a, b []int) bool {
	return len(a) == len(b) && slices.Equal(a[:cap(a)], b[:cap(b)])
}

func allSame(a, b [][]int) bool {
	return len(a) == len(b) && slices.EqualFunc(a[:cap(a)], b[:cap(b)], same)
}

// copied are lists, the same, their spare room too.
func copied(lists [][]int) [][]int {
	all := slices.Clone(lists[:cap(lists)])
	for i, list := range all {
		all[i] = slices.Clip(slices.Clone(list[:cap(list)]))[:len(list)]
	}
	return slices.Clip(all)[:len(lists)]
}

// checkRush holds Rush against the chapter's words, and what it was handed against what that was.
func checkRush(t *testing.T, cells []int, workers [][]int) ([]int, [][]int) {
	t.Helper()
	ours, theirs := roomy(cells), roomyLists(workers)
	oursWas, theirsWas := copied([][]int{ours})[0], copied(theirs)
	many, saw, e := lazy.Rush(ours, theirs)
	wantMany, wantSaw, want := rushByWords(cells, workers)
	if e != want || !slices.Equal(many, wantMany) || !allEqual(saw, wantSaw) {
		t.Errorf("Rush of %v, %v: %v, %v, %d; not %v, %v, %d", cells, workers, many, saw, e, wantMany, wantSaw, want)
	}
	if !same(ours, oursWas) || !allSame(theirs, theirsWas) {
		t.Errorf("Rush of %v, %v wrote into them: %v, %v", cells, workers, ours[:cap(ours)], theirs[:cap(theirs)])
	}
	return many, saw
}
