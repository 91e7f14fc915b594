package move_test

import (
	"slices"
	"strings"
	"testing"

	"tinderbox/api"
	"tinderbox/move"
)

// M2: Find

func TestFindTellsWhatWasAdded(t *testing.T) {
	moves := []api.Move{
		{ID: "b04", Needs: []string{"b02", "b03"}, Steps: []api.Step{rename("users", "root", "admin")}},
		{ID: "a", Steps: oneOfEach("users")},
		{ID: strings.Repeat("w", 32), Needs: []string{"-", ".", "0", "9", "_", "a", "b", strings.Repeat("w", 31)}, Steps: slices.Repeat([]api.Step{mapBy("a", "trim")}, 16)},
		{ID: "-", Needs: []string{"zz"}, Steps: []api.Step{put("a", "b", strings.Repeat("\xff\x00", 100)), put("a", "b", "")}},
	}
	s, x := filled(t, moves...)
	for range 2 {
		x.check(t, s)
		for _, m := range moves {
			if got, ok := s.Find(m.ID); !ok || !same(got, m) {
				t.Errorf("Find(%q): %+v, %t; not as it was added: %+v", m.ID, got, ok, m)
			}
		}
	}
}

func TestFindOfWhatIsNotThere(t *testing.T) {
	for _, count := range []int{0, 1, 2, 63, 64} {
		s, x := filled(t, many(count)...)
		for _, id := range []string{"", "a", "z", "ma", "maaa", "mb", "MAA", "m a", "maa\x00", "\xff", "users", "root", strings.Repeat("m", 32), strings.Repeat("m", 33)} {
			if m, ok := s.Find(id); ok || m.ID != "" || len(m.Needs) != 0 || len(m.Steps) != 0 {
				t.Errorf("Find(%q) of %d: %+v, %t", id, count, m, ok)
			}
		}
		x.check(t, s)
	}
}

// M2: All

func ids(moves []api.Move) []string {
	var all []string
	for _, m := range moves {
		all = append(all, m.ID)
	}
	return all
}

func TestAllIsByRisingIDs(t *testing.T) {
	want := []string{"-", "--", "-a", ".", "0", "00", "9", "_", "a", "a-", "a-b", "a.", "a0", "a_", "aa", "ab", "b", "b01", "b02", "b1", "moves", "settings", "z"}
	for _, along := range []int{1, 2, 7, 11, 22} {
		s := move.New()
		for i := range want {
			if e := s.Add(plain(want[(i+1)*along%len(want)])); e != api.OK {
				t.Fatalf("Add: %d", e)
			}
		}
		if got := ids(s.All()); !slices.Equal(got, want) {
			t.Errorf("All: %q", got)
		}
	}
}

// Of none, of one, up to 64, added in a rising, a falling and other orders.
func TestAllOfEachCount(t *testing.T) {
	x := numbers(1)
	for count := range 65 {
		moves := many(count)
		rising := slices.SortedFunc(slices.Values(moves), func(a, b api.Move) int { return strings.Compare(a.ID, b.ID) })
		falling := slices.Clone(rising)
		slices.Reverse(falling)
		for _, order := range [][]api.Move{moves, rising, falling, shuffled(x, moves), shuffled(x, moves)} {
			s, m := filled(t, order...)
			if all := s.All(); !allSame(all, rising) {
				t.Errorf("All of %q: %q", ids(order), ids(all))
			}
			m.check(t, s)
		}
	}
}

// Sets know nothing of one another

func TestSetsKnowNothingOfOneAnother(t *testing.T) {
	s, x := filled(t, plain("a"), plain("b", "a"))
	other, empty := move.New(), move.New()
	for _, m := range []api.Move{plain("a", "z"), plain("c")} {
		if e := other.Add(m); e != api.OK {
			t.Errorf("Add of %+v: %d", m, e)
		}
	}
	x.check(t, s)
	model{}.check(t, empty)
	model{"a": plain("a", "z"), "c": plain("c")}.check(t, other)
	for _, m := range many(64) {
		empty.Add(m)
	}
	x.add(t, s, plain("d"))
	x.check(t, s)
	model{"a": plain("a", "z"), "c": plain("c")}.check(t, other)
}

// A set that was assigned from another one is one of its own.
func TestAssignedSets(t *testing.T) {
	for count := range 63 {
		s, x := filled(t, many(count)...)
		assigned := *s
		s.Add(plain("z"))
		assigned.Add(plain("a"))
		x["z"] = plain("z")
		x.check(t, s)
		delete(x, "z")
		x["a"] = plain("a")
		x.check(t, &assigned)
	}
}
