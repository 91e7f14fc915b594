package move_test

import (
	"regexp"
	"slices"
	"strings"
	"testing"

	"tinderbox/api"
	"tinderbox/move"
	"tinderbox/step"
)

// The chapter's words once more: a pattern tells words, a set is a map by IDs.

var wordForm = regexp.MustCompile(`\A[a-z0-9_.-]{1,32}\z`)

// rise: does each text stand ahead of the next one?
func rise(texts []string) bool {
	return slices.IsSorted(texts) && len(slices.Compact(slices.Clone(texts))) == len(texts)
}

// spokenOf are the tables of which a step speaks.
func spokenOf(s api.Step) []string {
	if s.Kind == 4 {
		return []string{s.Table, s.To}
	}
	return []string{s.Table}
}

func stepMayStand(s api.Step) bool {
	for _, table := range spokenOf(s) {
		if table == "moves" || table == "settings" {
			return false
		}
	}
	return step.Right(s)
}

func rightByWords(m api.Move) bool {
	for _, need := range m.Needs {
		if !wordForm.MatchString(need) {
			return false
		}
	}
	for _, s := range m.Steps {
		if !stepMayStand(s) {
			return false
		}
	}
	few := len(m.Needs) <= 8 && len(m.Steps) <= 16 && len(m.Steps) > 0
	return few && wordForm.MatchString(m.ID) && rise(m.Needs) && !slices.Contains(m.Needs, m.ID)
}

// model is what a set has, by its IDs.
type model map[string]api.Move

func (x model) refuses(m api.Move) api.Errno {
	_, there := x[m.ID]
	switch {
	case !rightByWords(m):
		return api.ErrMoveForm
	case there:
		return api.ErrMoveTwice
	case len(x) == 64:
		return api.ErrMoveMany
	}
	return api.OK
}

func (x model) all() []api.Move {
	var ids []string
	for id := range x {
		ids = append(ids, id)
	}
	slices.Sort(ids)
	var all []api.Move
	for _, id := range ids {
		all = append(all, x[id])
	}
	return all
}

// same: are they alike in all fields, their lists too?
func same(a, b api.Move) bool {
	return a.ID == b.ID && slices.Equal(a.Needs, b.Needs) && slices.Equal(a.Steps, b.Steps)
}

func allSame(a, b []api.Move) bool { return slices.EqualFunc(a, b, same) }

// another is a move like this one that has no memory in common with it.
func another(m api.Move) api.Move {
	m.ID = strings.Clone(m.ID)
	m.Needs = append([]string(nil), m.Needs...)
	m.Steps = append([]api.Step(nil), m.Steps...)
	return m
}

// What is answered, held against the words

// add adds to a set and to its model, and holds the one against the other.
func (x model) add(t *testing.T, s *move.Set, m api.Move) api.Errno {
	t.Helper()
	was := another(m)
	want := x.refuses(m)
	got := s.Add(m)
	if got != want {
		t.Errorf("Add of %+v to %d: %d, not %d", m, len(x), got, want)
	}
	if !same(m, was) {
		t.Errorf("Add of %+v wrote into it: %+v", was, m)
	}
	if want == api.OK {
		x[was.ID] = was
	}
	if all := s.All(); !allSame(all, x.all()) {
		t.Errorf("behind Add of %+v: %+v; not %+v", m, all, x.all())
	}
	return got
}

// nearIDs are an ID and those that are nearly it.
func nearIDs(id string) []string {
	return []string{id, id + "a", id + "0", id + ".", id + "\x00", " " + id, strings.ToUpper(id), id[:len(id)-1], id[1:], id[:len(id)-1] + "{", id[:len(id)-1] + "-"}
}

// check holds all answers of a set against its model.
func (x model) check(t *testing.T, s *move.Set) {
	t.Helper()
	if all := s.All(); !allSame(all, x.all()) {
		t.Errorf("All: %+v; not %+v", all, x.all())
	}
	ids := []string{"", "-", "a", "b1", "c1", "zz", "A", "a b", "\xff", strings.Repeat("a", 32), strings.Repeat("a", 33), strings.Repeat("a", 1<<16)}
	for id := range x {
		ids = append(ids, nearIDs(id)...)
	}
	for _, id := range ids {
		want, there := x[id]
		if m, ok := s.Find(id); ok != there || !same(m, want) {
			t.Errorf("Find(%q): %+v, %t; not %+v, %t", id, m, ok, want, there)
		}
	}
}

// filled is a set, and its model, with moves that are all taken.
func filled(t *testing.T, moves ...api.Move) (*move.Set, model) {
	t.Helper()
	s, x := move.New(), model{}
	for _, m := range moves {
		if e := x.add(t, s, m); e != api.OK {
			t.Fatalf("Add of %+v: %d", m, e)
		}
	}
	return s, x
}

// wantTaken: a set without moves takes each of these.
func wantTaken(t *testing.T, moves ...api.Move) {
	t.Helper()
	for _, m := range moves {
		s, x := filled(t, m)
		x.check(t, s)
	}
}

// wantNone: no set takes any of these, whatever it has, and none is changed by them.
func wantNone(t *testing.T, moves ...api.Move) {
	t.Helper()
	for _, m := range moves {
		for _, s := range []*move.Set{move.New(), with(plain(m.ID)), with(many(64)...)} {
			was := s.All()
			if e := s.Add(m); e != api.ErrMoveForm {
				t.Errorf("Add of %+v to %d: %d", m, len(was), e)
			}
			if all := s.All(); !allSame(all, was) {
				t.Errorf("behind Add of %+v: %+v", m, all)
			}
		}
		x := model{}
		s := move.New()
		x.add(t, s, m)
		x.check(t, s)
	}
}

// with is a set to which moves were added, as far as it took them.
func with(moves ...api.Move) *move.Set {
	s := move.New()
	for _, m := range moves {
		s.Add(m)
	}
	return s
}

// Short ways to write

// root is the step of the chapter's example.
var root = put("users", "root", "root")

// plain is a move of this ID that puts users root, and needs these.
func plain(id string, needs ...string) api.Move {
	return api.Move{ID: id, Needs: needs, Steps: []api.Step{root}}
}

// doing is a move that has these steps.
func doing(steps ...api.Step) api.Move {
	return api.Move{ID: "a1", Needs: []string{"b1"}, Steps: steps}
}

// many are so many moves, no two of one ID, the first one maa; each needs the ones that are told next, as many as may be, up to eight.
func many(count int) []api.Move {
	ids := make([]string, count)
	for i := range ids {
		// Steps of 37 leave the IDs in no order.
		at := i * 37 % 101
		ids[i] = "m" + string([]byte{byte('a' + at/26), byte('a' + at%26)})
	}
	moves := make([]api.Move, count)
	for i := range moves {
		needs := slices.Clone(ids[i+1 : min(i+1+i%9, count)])
		slices.Sort(needs)
		moves[i] = api.Move{ID: ids[i], Needs: needs, Steps: slices.Repeat([]api.Step{put("t", ids[i], "")}, 1+i%16)}
	}
	return moves
}

func put(table, key, text string) api.Step {
	return api.Step{Kind: api.StepPut, Table: table, Key: key, Text: text}
}

func drop(table, key string) api.Step {
	return api.Step{Kind: api.StepDrop, Table: table, Key: key}
}

func rename(table, key, to string) api.Step {
	return api.Step{Kind: api.StepRename, Table: table, Key: key, To: to}
}

func retable(table, to string) api.Step {
	return api.Step{Kind: api.StepTable, Table: table, To: to}
}

func mapBy(table, function string) api.Step {
	return api.Step{Kind: api.StepMap, Table: table, Text: function}
}

func copyTo(table, key, to string) api.Step {
	return api.Step{Kind: api.StepCopy, Table: table, Key: key, To: to}
}

// eachOrder calls use with the moves in each order.
func eachOrder(moves []api.Move, use func(moves []api.Move)) {
	var grow func(taken, left []api.Move)
	grow = func(taken, left []api.Move) {
		if len(left) == 0 {
			use(taken)
		}
		for i, m := range left {
			grow(append(slices.Clip(taken), m), slices.Delete(slices.Clone(left), i, i+1))
		}
	}
	grow(nil, moves)
}

// seeded are numbers, for each seed the same row of them.
type seeded struct{ state uint64 }

func numbers(seed int) *seeded { return &seeded{uint64(seed)*2654435761 + 1} }

func (x *seeded) next() int {
	x.state = x.state*6364136223846793005 + 1442695040888963407
	return int(x.state >> 34)
}

func pick[E any](x *seeded, l []E) E {
	return l[x.next()%len(l)]
}

// shuffled are the same ones in another order.
func shuffled[E any](x *seeded, l []E) []E {
	l = slices.Clone(l)
	for i := len(l) - 1; i > 0; i-- {
		j := x.next() % (i + 1)
		l[i], l[j] = l[j], l[i]
	}
	return l
}
