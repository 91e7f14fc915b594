package move_test

import (
	"slices"
	"testing"

	"tinderbox/api"
	"tinderbox/move"
)

// M3, P2: what a set answers hangs on which moves it took

// probes are moves of all kinds that may be refused or taken.
func probes() []api.Move {
	return []api.Move{plain("a"), plain("a", "b"), plain("b"), plain("d", "a"), plain("e"), plain("maa"), plain("zz"), plain("a", "a"), {ID: "a"}, {}, doing(drop("moves", ""))}
}

// wantAlike: two sets answer alike, and take alike what is added next.
func wantAlike(t *testing.T, one, two *move.Set) {
	t.Helper()
	if !allSame(one.All(), two.All()) {
		t.Fatalf("All: %q and %q", ids(one.All()), ids(two.All()))
	}
	for _, m := range append(probes(), one.All()...) {
		// The ID itself is among those that are nearly another one.
		for _, id := range nearIDs(m.ID + "x") {
			a, ok := one.Find(id)
			if b, okay := two.Find(id); !same(a, b) || ok != okay {
				t.Errorf("Find(%q): %+v, %t and %+v, %t", id, a, ok, b, okay)
			}
		}
	}
	for _, m := range probes() {
		a, b := *one, *two
		if e, f := a.Add(m), b.Add(m); e != f || !allSame(a.All(), b.All()) {
			t.Errorf("Add of %+v: %d and %d", m, e, f)
		}
	}
}

func TestEachOrderOfAFewMoves(t *testing.T) {
	few := []api.Move{plain("b", "a"), plain("a", "b", "c"), plain("c"), {ID: "a-", Steps: oneOfEach("users")}, plain("aa", "x")}
	for count := range len(few) + 1 {
		want := with(few[:count]...)
		eachOrder(few[:count], func(moves []api.Move) {
			s, x := filled(t, moves...)
			x.check(t, s)
			wantAlike(t, want, s)
		})
	}
}

// Among moves of which some are refused, the set has those that it took, whatever stood between them.
func TestEachOrderOfMovesThatMayNotAllBe(t *testing.T) {
	few := []api.Move{plain("b", "a"), plain("b"), plain("a", "a"), plain("a"), {ID: "c"}, plain("c")}
	eachOrder(few, func(moves []api.Move) {
		s, x := move.New(), model{}
		var taken []api.Move
		for _, m := range moves {
			if x.add(t, s, m) == api.OK {
				taken = append(taken, m)
			}
		}
		slices.Reverse(taken)
		wantAlike(t, s, with(taken...))
	})
}

// word is one of some hundred, of which some go on from others.
func (x *seeded) word() string {
	return pick(x, []string{"a", "b", "-", "0", "m", ".z"}) + pick(x, []string{"", "a", "1", "-", "_"}) + pick(x, []string{"", "0", "b", "."})
}

// move is a random one, right or not.
func (x *seeded) move() api.Move {
	m := api.Move{ID: x.word()}
	for range x.next() % 5 {
		m.Needs = append(m.Needs, x.word())
	}
	if x.next()%8 > 0 {
		slices.Sort(m.Needs)
		m.Needs = slices.Compact(m.Needs)
	}
	for range 1 + x.next()%4 {
		m.Steps = append(m.Steps, pick(x, oneOfEach(x.word())))
	}
	switch x.next() % 12 {
	case 0:
		m.Steps[x.next()%len(m.Steps)] = pick(x, wrongSteps())
	case 1:
		m.Steps[x.next()%len(m.Steps)] = pick(x, oneOfEach("settings"))
	case 2:
		m.ID = ""
	case 3:
		m.Steps = nil
	}
	return m
}

func TestRandomMovesInOtherOrders(t *testing.T) {
	x := numbers(2)
	for range 150 {
		s, m := move.New(), model{}
		var taken []api.Move
		for range x.next() % 200 {
			if one := x.move(); m.add(t, s, one) == api.OK {
				taken = append(taken, one)
			}
		}
		m.check(t, s)
		for range 3 {
			wantAlike(t, s, with(shuffled(x, taken)...))
		}
	}
}

// Whatever is asked between, and whatever is done with the answers, the set is the same.
func TestAskingChangesNothing(t *testing.T) {
	x := numbers(3)
	for range 20 {
		moves := shuffled(x, many(1+x.next()%64))
		s := move.New()
		for _, m := range moves {
			s.Find(m.ID)
			s.All()
			s.Add(m)
			s.Find(m.ID)
			s.Find("none")
			s.All()
		}
		wantAlike(t, with(moves...), s)
	}
}
