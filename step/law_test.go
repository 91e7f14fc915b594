package step_test

import (
	"slices"
	"strconv"
	"testing"

	"tinderbox/api"
	"tinderbox/step"
)

// M4, and M3 once more, on all that a few words allow and on random ones

// apply is what steps make of pairs, one behind the other.
func apply(t *testing.T, l []api.Pair, steps ...api.Step) []api.Pair {
	t.Helper()
	for _, s := range steps {
		next, e := checkApply(t, l, s)
		if e != api.OK {
			t.Fatalf("%+v of %s: %d", s, written(l), e)
		}
		l = next
	}
	return l
}

// eachState calls use with each way in which four places may have one of two values, or none.
func eachState(use func(l []api.Pair)) {
	var grow func(l []api.Pair, left []string)
	grow = func(l []api.Pair, left []string) {
		if len(left) == 0 {
			use(l)
			return
		}
		grow(l, left[1:])
		for _, value := range []string{"1", "x "} {
			grow(append(slices.Clip(l), pairs(left[0]+"="+value)...), left[1:])
		}
	}
	grow(nil, []string{"a/k", "a/m", "b/k", "b/m"})
}

// fewSteps are all steps that a few texts allow, right and wrong.
func fewSteps() []api.Step {
	var all []api.Step
	for kind := range 8 {
		for _, table := range []string{"a", "b", "c", "A"} {
			for _, key := range []string{"", "k", "m", "z", "K"} {
				for _, to := range []string{"", "k", "m", "a", "b", "0"} {
					for _, text := range []string{"", "7", "double", "upper", "trim"} {
						all = append(all, api.Step{Kind: kind, Table: table, Key: key, To: to, Text: text})
					}
				}
			}
		}
	}
	return all
}

func TestAllFewStepsOfAllFewPairs(t *testing.T) {
	all := fewSteps()
	eachState(func(l []api.Pair) {
		for _, s := range all {
			checkApply(t, l, s)
		}
	})
}

// speaks: does a step speak of a table?
func speaks(s api.Step, table string) bool {
	return s.Table == table || s.Kind == api.StepTable && s.To == table
}

// only are the pairs of the tables of which a step speaks, or the others.
func only(l []api.Pair, s api.Step, spoken bool) []api.Pair {
	var some []api.Pair
	for _, p := range l {
		if speaks(s, p.Table) == spoken {
			some = append(some, p)
		}
	}
	return some
}

// checkLaws holds what is told against M4 alone.
func checkLaws(t *testing.T, l []api.Pair, s api.Step) {
	t.Helper()
	got, e := step.Apply(l, s)
	if !pairsByWords(got) || e != api.OK && len(got) != 0 {
		t.Errorf("%+v of %s: no pairs: %s, %d", s, written(l), written(got), e)
	}
	if e == api.ErrStepMany || e == api.ErrArg {
		return
	}
	if e == api.OK && !slices.Equal(only(l, s, false), only(got, s, false)) {
		t.Errorf("%+v of %s changed other tables: %s", s, written(l), written(got))
	}
	// Without the others it does the same.
	alone, f := step.Apply(only(l, s, true), s)
	if !slices.Equal(alone, only(got, s, true)) || e != f {
		t.Errorf("%+v of %s: %s, %d; without other tables %s, %d", s, written(l), written(got), e, written(alone), f)
	}
}

func TestLawsOfAllFewSteps(t *testing.T) {
	all := fewSteps()
	eachState(func(l []api.Pair) {
		for _, s := range all {
			checkLaws(t, l, s)
		}
	})
}

// word is one of few, of which some go on from others.
func (x *seeded) word() string {
	return pick(x, []string{"a", "b", "a-", "a.b", "ab", "0", "_", "users"})
}

// pairs are up to so many, rising.
func (x *seeded) pairs(most int) []api.Pair {
	m := map[place]string{}
	for range x.next() % (most + 1) {
		key := x.word()
		if most > 60 {
			key += strconv.Itoa(x.next() % 100)
		}
		value := x.value()
		m[place{x.word(), key}] = value[:min(len(value), 200)]
	}
	l := rising(m)
	return l[:min(len(l), 500)]
}

// step is one of some kind; at times it is not right.
func (x *seeded) step() api.Step {
	s := pick(x, []api.Step{
		put(x.word(), x.word(), x.value()), drop(x.word(), x.word()), drop(x.word(), ""), rename(x.word(), x.word(), x.word()),
		retable(x.word(), x.word()), mapBy(x.word(), x.function()), copyTo(x.word(), x.word(), x.word()),
	})
	if x.next()%20 == 0 {
		*pick(x, []*string{&s.Table, &s.Key, &s.To, &s.Text}) = pick(x, append([]string{"", "a"}, notWords...))
	}
	if x.next()%40 == 0 {
		s.Kind = x.next()%12 - 2
	}
	return s
}

func TestRandomStepsOfRandomPairs(t *testing.T) {
	x := numbers(2)
	told := map[api.Errno]int{}
	for range 40000 {
		l, s := x.pairs(pick(x, []int{3, 12, 40})), x.step()
		_, e := checkApply(t, l, s)
		told[e]++
		checkLaws(t, l, s)
	}
	for _, e := range []api.Errno{api.OK, api.ErrStepForm, api.ErrStepTaken, api.ErrStepValue} {
		if told[e] < 300 {
			t.Errorf("%d was told %d times alone", e, told[e])
		}
	}
}

// Steps behind one another, of up to some hundreds of pairs.
func TestRandomRowsOfSteps(t *testing.T) {
	x := numbers(3)
	for range 60 {
		l := x.pairs(700)
		for range 40 {
			s := x.step()
			checkLaws(t, l, s)
			if next, e := checkApply(t, l, s); e == api.OK {
				l = next
			}
		}
	}
}

// Lists that are made wrong somewhere.
func TestRandomListsThatAreNoPairs(t *testing.T) {
	x := numbers(4)
	refused := 0
	for range 20000 {
		l := slices.Concat(x.pairs(12), x.pairs(pick(x, []int{0, 3})))
		if len(l) > 0 && x.next()%2 == 0 {
			p := &l[x.next()%len(l)]
			*pick(x, []*string{&p.Table, &p.Key, &p.Value}) = pick(x, append([]string{"", "a", long(200), long(201)}, notWords...))
		}
		if _, e := checkApply(t, l, x.step()); e == api.ErrArg {
			refused++
		}
	}
	if refused < 2000 || refused > 18000 {
		t.Errorf("%d were refused", refused)
	}
}

// What leads back leads back. (No pair is of the table q, nor has that key.)
func TestWhatLeadsBack(t *testing.T) {
	x := numbers(5)
	for range 3000 {
		l, table, key := x.pairs(30), x.word(), x.word()
		back := [][2]api.Step{
			{put(table, "q", "7"), drop(table, "q")}, {put("q", key, ""), drop("q", key)},
			{retable(table, "q"), retable("q", table)}, {mapBy(table, "reverse"), mapBy(table, "reverse")},
			{rename(table, key, "q"), rename(table, "q", key)}, {copyTo(table, key, "q"), drop(table, "q")},
		}
		if len(l) > 0 {
			p := pick(x, l)
			back = append(back, [2]api.Step{rename(p.Table, p.Key, "q"), rename(p.Table, "q", p.Key)}, [2]api.Step{copyTo(p.Table, p.Key, "q"), drop(p.Table, "q")}, [2]api.Step{drop(p.Table, p.Key), put(p.Table, p.Key, p.Value)})
		}
		for _, there := range back {
			if got := apply(t, l, there[:]...); !slices.Equal(got, l) {
				t.Errorf("%+v of %s: %s", there, written(l), written(got))
			}
		}
	}
}

func TestLowerUpperAndTrimTwice(t *testing.T) {
	x := numbers(6)
	for range 3000 {
		l, table := x.pairs(30), x.word()
		for _, name := range []string{"lower", "upper", "trim"} {
			once := apply(t, l, mapBy(table, name))
			if again := apply(t, once, mapBy(table, name)); !slices.Equal(again, once) {
				t.Errorf("%s twice of %s: %s, %s", name, written(l), written(once), written(again))
			}
		}
	}
	for range 20000 {
		value := x.value()
		for _, name := range theFunctions {
			once, e := step.Call(name, value)
			again, f := step.Call(name, once)
			switch {
			case e != api.OK || name == "double":
			case name == "reverse" && again != value, name != "reverse" && again != once, f != api.OK:
				t.Errorf("%s of %q: %q, and of that %q", name, value, once, again)
			}
		}
	}
}

// No function makes a value longer than it may be.
func TestWhatFunctionsMakeMayStand(t *testing.T) {
	x := numbers(7)
	for range 20000 {
		name, value := pick(x, theFunctions), x.value()
		if made, e := step.Call(name, value); len(made) > 200 || name != "double" && len(made) > len(value) || e != api.OK && made != "" {
			t.Errorf("%s of %q: %q, %d", name, value, made, e)
		}
	}
}
