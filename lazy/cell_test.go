package lazy_test

import (
	"errors"
	"math"
	"reflect"
	"strings"
	"testing"

	"tinderbox/lazy"
)

// counting is a cell of something, and how often its make was called.
func counting[T any](it T) (*lazy.Cell[T], *int) {
	many := new(int)
	return lazy.New(func() T {
		*many++
		return it
	}), many
}

// Z1: the chapter's example

func TestCellExample(t *testing.T) {
	c, many := counting(7)
	if c.Made() {
		t.Error("made ahead of the first Get")
	}
	if one, two := c.Get(), c.Get(); one != 7 || two != 7 {
		t.Errorf("Get: %d, %d", one, two)
	}
	if !c.Made() || *many != 1 {
		t.Errorf("Made: %v; its make was called %d times", c.Made(), *many)
	}
}

// Z1: cells of several types

// checkCell asks a cell of something again and again.
func checkCell[T any](t *testing.T, it T) {
	t.Helper()
	c, many := counting(it)
	for n := range 3 {
		if c.Made() || *many != 0 {
			t.Errorf("%#v: asked %d times whether it was made, it was: %v, %d", it, n, c.Made(), *many)
		}
	}
	for n := range 4 {
		if got := c.Get(); !reflect.DeepEqual(got, it) {
			t.Errorf("%#v: Get %d told %#v", it, n, got)
		}
		for range 2 {
			if !c.Made() || *many != 1 {
				t.Errorf("%#v: behind Get %d: %v, %d", it, n, c.Made(), *many)
			}
		}
	}
}

type (
	number int
	point  struct{ x, y int }
	tree   struct {
		name    string
		leaves  []string
		under   []tree
		numbers map[string][]int
	}
)

func TestCellsOfNumbersAndTexts(t *testing.T) {
	for _, n := range []int{7, 1, -1, math.MaxInt, math.MinInt} {
		checkCell(t, n)
		checkCell(t, number(n))
		checkCell(t, uint64(n))
		checkCell(t, int8(n))
	}
	checkCell(t, true)
	checkCell(t, 1.5)
	checkCell(t, math.Inf(-1))
	checkCell(t, complex(1, -1))
	for _, s := range []string{"made", "a\x00\xffb", strings.Repeat("long", 1<<16)} {
		checkCell(t, s)
		checkCell(t, []byte(s))
		checkCell(t, []rune(s))
	}
}

func TestCellsOfStructsAndLists(t *testing.T) {
	checkCell(t, point{3, -4})
	checkCell(t, [3]point{{1, 2}, {}, {3, 4}})
	checkCell(t, []int{5, 6, 7})
	checkCell(t, []string{"a", "", "c"})
	checkCell(t, [][]int{{1}, {}, nil, {2, 3}})
	checkCell(t, map[string]int{"a": 1, "": 0})
	whole := tree{"root", []string{"x"}, []tree{{name: "under"}, {leaves: []string{}}}, map[string][]int{"n": {1, 2}}}
	checkCell(t, whole)
	checkCell(t, &whole)
	checkCell(t, []*tree{&whole, nil, &whole})
	checkCell(t, any(whole))
	checkCell(t, any(7))
	checkCell(t, errors.New("told"))
}

// A make that tells the zero value has told something.
func TestCellsOfZeroValues(t *testing.T) {
	checkCell(t, 0)
	checkCell(t, number(0))
	checkCell(t, "")
	checkCell(t, false)
	checkCell(t, 0.0)
	checkCell(t, struct{}{})
	checkCell(t, point{})
	checkCell(t, tree{})
	checkCell(t, [0]int{})
	checkCell(t, [4]string{})
	checkCell(t, []int{})
	checkCell(t, []int(nil))
	checkCell(t, map[string]int(nil))
	checkCell(t, (*tree)(nil))
	checkCell(t, any(nil))
	checkCell(t, error(nil))
	checkCell(t, (func())(nil))
}

// What a make tells is told, and nothing that is only like it.
func TestCellsOfPointersAndFunctions(t *testing.T) {
	it := &point{1, 2}
	c, _ := counting(it)
	c.Get().x = 5
	if c.Get() != it || it.x != 5 {
		t.Errorf("%p, not %p", c.Get(), it)
	}
	ways := make(chan int, 1)
	w, _ := counting(ways)
	if w.Get() != ways {
		t.Error("another channel")
	}
	calls := 0
	f, many := counting(func() int { calls++; return calls })
	if f.Get()() != 1 || f.Get()() != 2 || calls != 2 || *many != 1 {
		t.Errorf("the function was called %d times, its make %d times", calls, *many)
	}
	inner, made := counting("inner")
	outer, _ := counting(inner)
	if outer.Get() != inner || inner.Made() || outer.Get().Get() != "inner" || *made != 1 {
		t.Error("a cell of a cell")
	}
}

// Z1: when a make is called

// What a make tells is what it told when it was called, whatever it would tell at another time.
func TestAMakeIsCalledAtTheFirstGet(t *testing.T) {
	now := 1
	c := lazy.New(func() int {
		now *= 10
		return now
	})
	now = 4
	for range 3 {
		if got := c.Get(); got != 40 {
			t.Errorf("Get: %d", got)
		}
		now++
	}
	if now != 43 {
		t.Errorf("its make wrote %d", now)
	}
}

// A make may be of several cells, each of which calls it.
func TestCellsOfOneMake(t *testing.T) {
	many := 0
	how := func() int { many++; return many }
	one, two, three := lazy.New(how), lazy.New(how), lazy.New(how)
	if three.Get() != 1 || one.Get() != 2 || three.Get() != 1 || two.Made() || one.Get() != 2 || two.Get() != 3 || many != 3 {
		t.Errorf("%d, %d, %d; %d", one.Get(), two.Get(), three.Get(), many)
	}
}

// All ways to ask three cells up to five times: the first Get of each one makes it, nothing else does, and none knows of another one.
func TestAllWaysToAskThreeCells(t *testing.T) {
	const most, asks = 5, 6
	ways := 1
	for range most {
		ways *= asks
	}
	for way := range ways {
		var cells [3]*lazy.Cell[int]
		var many [3]*int
		for i := range cells {
			cells[i], many[i] = counting(i * 5)
		}
		var want [3]int
		for n, left := 0, way; n < most; n, left = n+1, left/asks {
			i, get := left%asks/2, left%2 == 1
			if get {
				want[i] = 1
				if got := cells[i].Get(); got != i*5 {
					t.Fatalf("way %d, ask %d: Get of cell %d told %d", way, n, i, got)
				}
			} else if made := cells[i].Made(); made != (want[i] == 1) {
				t.Fatalf("way %d, ask %d: Made of cell %d told %v", way, n, i, made)
			}
			if got := [3]int{*many[0], *many[1], *many[2]}; got != want {
				t.Fatalf("way %d, ask %d: the makes were called %v times, not %v", way, n, got, want)
			}
		}
	}
}

// Z1: many cells

func TestManyCellsSideBySide(t *testing.T) {
	const count = 10000
	cells, many := make([]*lazy.Cell[int], count), make([]*int, count)
	for i := range cells {
		cells[i], many[i] = counting(i % 100)
	}
	for round := range 3 {
		// Every third one is asked, from behind.
		for i := count - 1; i >= 0; i -= 3 {
			if got := cells[i].Get(); got != i%100 {
				t.Fatalf("round %d: cell %d told %d", round, i, got)
			}
		}
		for i, c := range cells {
			asked := (count-1-i)%3 == 0
			if c.Made() != asked || (*many[i] == 1) != asked || *many[i] > 1 {
				t.Fatalf("round %d: cell %d: %v, %d", round, i, c.Made(), *many[i])
			}
		}
	}
}

// Z1: makes that ask other cells

// row is a row of cells, each of which but the last asks the one behind it.
func row(count int) ([]*lazy.Cell[int], []int) {
	cells, many := make([]*lazy.Cell[int], count), make([]int, count)
	for i := range cells {
		cells[i] = lazy.New(func() int {
			many[i]++
			if i+1 == count {
				return 1
			}
			return cells[i+1].Get() + 1
		})
	}
	return cells, many
}

func TestAMakeThatAsksAnotherCell(t *testing.T) {
	const count = 1000
	cells, many := row(count)
	for _, at := range []int{count / 2, count - 1, 0, count / 4, 0} {
		if got := cells[at].Get(); got != count-at {
			t.Errorf("cell %d told %d", at, got)
		}
		for i, c := range cells {
			if c.Made() != (many[i] == 1) || many[i] > 1 || i >= at && many[i] != 1 || at == count/2 && i < at && many[i] != 0 {
				t.Fatalf("behind Get of cell %d: cell %d: %v, %d", at, i, c.Made(), many[i])
			}
		}
	}
}

func TestMakesThatAskOneCell(t *testing.T) {
	base, many := counting(3)
	var cells [5]*lazy.Cell[int]
	for i := range cells {
		cells[i] = lazy.New(func() int { return base.Get() * i * base.Get() })
	}
	if base.Made() {
		t.Error("made by New of others")
	}
	for i, c := range cells {
		if got := c.Get(); got != 9*i || *many != 1 {
			t.Errorf("cell %d told %d; %d", i, got, *many)
		}
	}
	// A make that asks whether another one was made makes nothing.
	other, calls := counting(1)
	asking := lazy.New(func() bool { return other.Made() })
	if asking.Get() || *calls != 0 {
		t.Error("made by Made")
	}
	other.Get()
	if asking.Get() {
		t.Error("made anew")
	}
}
