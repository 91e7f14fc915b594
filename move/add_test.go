package move_test

import (
	"slices"
	"testing"

	"tinderbox/api"
	"tinderbox/move"
)

// The chapter's examples

func TestExamples(t *testing.T) {
	s, x := filled(t, plain("b1"))
	if e := x.add(t, s, plain("b1")); e != api.ErrMoveTwice {
		t.Errorf("again: %d", e)
	}
	a1 := plain("a1", "b1", "c1")
	if e := x.add(t, s, a1); e != api.OK {
		t.Errorf("Add of a1: %d", e)
	}
	if all := s.All(); !allSame(all, []api.Move{a1, plain("b1")}) {
		t.Errorf("All: %+v", all)
	}
	if m, ok := s.Find("a1"); !ok || !same(m, a1) {
		t.Errorf("Find of a1: %+v, %t", m, ok)
	}
	if m, ok := s.Find("c1"); ok || !same(m, api.Move{}) {
		t.Errorf("Find of c1: %+v, %t", m, ok)
	}
	x.check(t, s)
	wantNone(t, api.Move{ID: "a1"}, plain("a1", "c1", "b1"), plain("a1", "a1"), doing(drop("moves", "")), doing(retable("users", "settings")))
	s, x = filled(t, many(64)...)
	if e := x.add(t, s, plain("z")); e != api.ErrMoveMany {
		t.Errorf("the 65th: %d", e)
	}
	x.check(t, s)
}

// M1: New, and what is there already

func TestANewSetHasNone(t *testing.T) {
	s := move.New()
	if all := s.All(); len(all) != 0 {
		t.Errorf("All of a new set: %+v", all)
	}
	model{}.check(t, s)
}

// others are moves of one ID that differ from the first one in one thing each.
func others() []api.Move {
	return []api.Move{
		plain("b1", "a1"), plain("b1"), plain("b1", "a1", "c1"), plain("b1", "c1"),
		{ID: "b1", Needs: []string{"a1"}, Steps: []api.Step{root, root}},
		{ID: "b1", Needs: []string{"a1"}, Steps: []api.Step{drop("users", "root")}},
		{ID: "b1", Needs: []string{"a1"}, Steps: []api.Step{put("users", "root", "toor")}},
	}
}

// The one that is there stays as it was.
func TestAddOfWhatIsThere(t *testing.T) {
	for _, first := range others() {
		for _, count := range []int{0, 1, 5, 62, 63} {
			s, x := filled(t, append(many(count), first)...)
			for _, m := range others() {
				if e := x.add(t, s, m); e != api.ErrMoveTwice {
					t.Errorf("Add of %+v where %+v is: %d", m, first, e)
				}
			}
			if m, _ := s.Find("b1"); !same(m, first) {
				t.Errorf("%+v is now %+v", first, m)
			}
			x.check(t, s)
		}
	}
}

// Alike but for the ID, they are others.
func TestAddOfOtherIDs(t *testing.T) {
	s, x := filled(t, plain("b1"), plain("b"), plain("b10"), plain("b-"), plain("1b"), plain("b2"), plain("a"))
	x.check(t, s)
}

// M1: ErrMoveMany

func TestThe64thAndThe65th(t *testing.T) {
	for _, last := range []string{"a", "mb", "mc.", "z"} {
		s, x := filled(t, many(63)...)
		if e := x.add(t, s, plain(last)); e != api.OK {
			t.Errorf("the 64th: %d", e)
		}
		for _, id := range []string{"0", "b", "mab.", "mzz", "zz"} {
			if e := x.add(t, s, plain(id, "maa")); e != api.ErrMoveMany {
				t.Errorf("the 65th: %d", e)
			}
		}
		x.check(t, s)
	}
}

// M1: the error that is named first, and nothing is changed

func TestWhichErrorComesFirst(t *testing.T) {
	s, x := filled(t, many(64)...)
	for _, there := range many(64) {
		if e := x.add(t, s, there); e != api.ErrMoveTwice {
			t.Errorf("Add of one that is there to 64: %d", e)
		}
		noSteps, own := there, there
		noSteps.Steps = nil
		own.Needs = []string{there.ID}
		for _, m := range []api.Move{noSteps, own} {
			if e := x.add(t, s, m); e != api.ErrMoveForm {
				t.Errorf("Add of %+v to 64: %d", m, e)
			}
		}
	}
	for _, m := range []api.Move{plain(""), plain("Z"), {ID: "z"}, plain("z", "z"), doing(drop("moves", "")), doing(api.Step{})} {
		if e := x.add(t, s, m); e != api.ErrMoveForm {
			t.Errorf("Add of %+v to 64: %d", m, e)
		}
	}
	x.check(t, s)
}

// What was refused bears upon nothing behind it.
func TestWhatWasRefusedIsNotThere(t *testing.T) {
	plenty := many(64)
	s, x := move.New(), model{}
	for i, m := range plenty {
		wrong := another(m)
		wrong.Steps = append(wrong.Steps, drop("settings", ""))
		for _, refused := range []api.Move{wrong, {ID: m.ID, Steps: slices.Repeat([]api.Step{root}, 17)}, plain(m.ID, m.ID)} {
			if e := x.add(t, s, refused); e != api.ErrMoveForm {
				t.Errorf("Add of %+v: %d", refused, e)
			}
		}
		if e := x.add(t, s, m); e != api.OK {
			t.Errorf("Add of %+v: %d", m, e)
		}
		for _, there := range plenty[:i+1] {
			if e := x.add(t, s, plain(there.ID)); e != api.ErrMoveTwice {
				t.Errorf("Add of %s once more: %d", there.ID, e)
			}
		}
	}
	x.check(t, s)
}

// M3: needs need not be there

func TestNeedsThatAreNotThere(t *testing.T) {
	s, x := filled(t, plain("a", "b"), plain("b", "a"), plain("c", "a", "d", "zz"), plain("e", "none"))
	x.check(t, s)
	for _, id := range []string{"d", "zz", "none"} {
		if m, ok := s.Find(id); ok {
			t.Errorf("a need is there as %+v", m)
		}
		if e := x.add(t, s, plain(id)); e != api.OK {
			t.Errorf("Add of what others need: %d", e)
		}
	}
	x.check(t, s)
}
