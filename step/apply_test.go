package step_test

import (
	"slices"
	"strings"
	"testing"

	"tinderbox/api"
)

// M3

// example are the chapter's pairs.
func example() []api.Pair { return pairs("a/k=1", "a/m=x", "b/k=2") }

func TestApplyExamples(t *testing.T) {
	l := example()
	wantPairs(t, l, put("a", "l", "7"), "a/k=1", "a/l=7", "a/m=x", "b/k=2")
	wantPairs(t, l, drop("a", ""), "b/k=2")
	wantPairs(t, l, rename("a", "k", "z"), "a/m=x", "a/z=1", "b/k=2")
	wantPairs(t, l, copyTo("b", "k", "j"), "a/k=1", "a/m=x", "b/j=2", "b/k=2")
	wantPairs(t, l, retable("a", "c"), "b/k=2", "c/k=1", "c/m=x")
	wantPairs(t, l, mapBy("b", "double"), "a/k=1", "a/m=x", "b/k=4")
	wantSame(t, l, drop("a", "z"), rename("a", "q", "m"), retable("q", "b"))
	wantRefused(t, api.ErrStepTaken, l, put("a", "k", "7"), rename("a", "k", "m"), rename("a", "k", "k"), retable("a", "b"), retable("a", "a"))
	wantRefused(t, api.ErrStepValue, l, mapBy("a", "double"))
	wrong := []api.Step{mapBy("a", "none"), put("a", "l", "7"), drop("a", "k")}
	wrong[1].To, wrong[2].Text = "x", "x"
	wantRefused(t, api.ErrStepForm, l, wrong...)
}

func TestPutAndDropAndWhatStandsThere(t *testing.T) {
	l := pairs("b/k=1", "b/m=")
	// Ahead of all, between, and behind all.
	wantPairs(t, l, put("a", "z", "7"), "a/z=7", "b/k=1", "b/m=")
	wantPairs(t, l, put("b", "a", "7"), "b/a=7", "b/k=1", "b/m=")
	wantPairs(t, l, put("b", "l", "7"), "b/k=1", "b/l=7", "b/m=")
	wantPairs(t, l, put("b", "z", ""), "b/k=1", "b/m=", "b/z=")
	wantPairs(t, l, put("c", "a", "7"), "b/k=1", "b/m=", "c/a=7")
	wantPairs(t, nil, put("a", "k", "7"), "a/k=7")
	wantPairs(t, l, drop("b", "k"), "b/m=")
	wantPairs(t, l, drop("b", "m"), "b/k=1")
	wantPairs(t, l, drop("b", ""))
	wantSame(t, l, drop("a", ""), drop("c", ""), drop("a", "k"), drop("b", "l"), drop("b.", ""), drop("bb", "k"))
	wantSame(t, nil, drop("a", ""), drop("a", "k"))
	// Also one with the same value, and one whose value is empty.
	wantRefused(t, api.ErrStepTaken, l, put("b", "k", "1"), put("b", "k", ""), put("b", "m", ""), put("b", "m", "7"))
	// Another table's key is another one.
	wantPairs(t, pairs("a/k=1"), put("b", "k", "1"), "a/k=1", "b/k=1")
	wantPairs(t, pairs("a/k=1"), put("a", "kk", "1"), "a/k=1", "a/kk=1")
}

func TestPutOfAnyText(t *testing.T) {
	for b := range 256 {
		text := strings.Repeat(string([]byte{byte(b)}), 200)
		if got, e := checkApply(t, example(), put("a", "l", text)); e != api.OK || got[1].Value != text {
			t.Errorf("Put of the byte %d: %s, %d", b, written(got), e)
		}
		wantRefused(t, api.ErrStepForm, example(), put("a", "l", text+"a"))
	}
}

func TestRenameAndCopy(t *testing.T) {
	l := pairs("a/k=1", "b/c=4", "b/k=2", "b/m=", "b/x=3", "c/k=5")
	wantPairs(t, l, rename("b", "k", "a"), "a/k=1", "b/a=2", "b/c=4", "b/m=", "b/x=3", "c/k=5")
	wantPairs(t, l, rename("b", "k", "o"), "a/k=1", "b/c=4", "b/m=", "b/o=2", "b/x=3", "c/k=5")
	wantPairs(t, l, rename("b", "k", "z"), "a/k=1", "b/c=4", "b/m=", "b/x=3", "b/z=2", "c/k=5")
	wantPairs(t, l, rename("b", "m", "y"), "a/k=1", "b/c=4", "b/k=2", "b/x=3", "b/y=", "c/k=5")
	wantPairs(t, l, copyTo("b", "k", "a"), "a/k=1", "b/a=2", "b/c=4", "b/k=2", "b/m=", "b/x=3", "c/k=5")
	wantPairs(t, l, copyTo("b", "k", "o"), "a/k=1", "b/c=4", "b/k=2", "b/m=", "b/o=2", "b/x=3", "c/k=5")
	wantPairs(t, l, copyTo("b", "m", "z"), "a/k=1", "b/c=4", "b/k=2", "b/m=", "b/x=3", "b/z=", "c/k=5")
	// To is free in the table, though another one has it.
	wantPairs(t, l, rename("a", "k", "c"), "a/c=1", "b/c=4", "b/k=2", "b/m=", "b/x=3", "c/k=5")
	wantPairs(t, l, copyTo("c", "k", "x"), "a/k=1", "b/c=4", "b/k=2", "b/m=", "b/x=3", "c/k=5", "c/x=5")
	wantRefused(t, api.ErrStepTaken, l, rename("b", "k", "m"), rename("b", "m", "k"), rename("b", "k", "k"), rename("b", "m", "m"), copyTo("b", "k", "m"), copyTo("b", "m", "k"), copyTo("b", "k", "k"), copyTo("b", "m", "m"))
	// Where there is no such pair, it does not matter whether To is taken.
	wantSame(t, l, rename("b", "q", "k"), rename("b", "q", "z"), rename("b", "q", "q"), rename("q", "k", "c"), rename("a", "c", "k"), copyTo("b", "q", "k"), copyTo("b", "q", "z"), copyTo("b", "q", "q"), copyTo("q", "k", "c"), copyTo("a", "c", "k"))
	wantSame(t, nil, rename("a", "k", "z"), copyTo("a", "k", "z"), rename("a", "k", "k"), copyTo("a", "k", "k"))
}

func TestTable(t *testing.T) {
	l := pairs("b/k=1", "b/m=", "d/k=2")
	wantPairs(t, l, retable("b", "a"), "a/k=1", "a/m=", "d/k=2")
	wantPairs(t, l, retable("b", "c"), "c/k=1", "c/m=", "d/k=2")
	wantPairs(t, l, retable("b", "e"), "d/k=2", "e/k=1", "e/m=")
	wantPairs(t, l, retable("d", "a"), "a/k=2", "b/k=1", "b/m=")
	wantPairs(t, l, retable("d", "b-"), "b/k=1", "b/m=", "b-/k=2")
	wantRefused(t, api.ErrStepTaken, l, retable("b", "d"), retable("d", "b"), retable("b", "b"), retable("d", "d"))
	// Keys that are not the other table's make no difference.
	wantRefused(t, api.ErrStepTaken, pairs("a/k=1", "b/m=2"), retable("a", "b"), retable("b", "a"))
	wantSame(t, l, retable("a", "b"), retable("c", "d"), retable("q", "q"), retable("k", "b"))
	wantSame(t, nil, retable("a", "b"), retable("a", "a"))
}

func TestMap(t *testing.T) {
	l := pairs("a/k=Ab", "a/m= 1 ", "b/k=7", "b/m=8", "c/k=", "d/k=1", "d/m=07")
	wantPairs(t, l, mapBy("a", "lower"), "a/k=ab", "a/m= 1 ", "b/k=7", "b/m=8", "c/k=", "d/k=1", "d/m=07")
	wantPairs(t, l, mapBy("a", "upper"), "a/k=AB", "a/m= 1 ", "b/k=7", "b/m=8", "c/k=", "d/k=1", "d/m=07")
	wantPairs(t, l, mapBy("a", "reverse"), "a/k=bA", "a/m= 1 ", "b/k=7", "b/m=8", "c/k=", "d/k=1", "d/m=07")
	wantPairs(t, l, mapBy("a", "trim"), "a/k=Ab", "a/m=1", "b/k=7", "b/m=8", "c/k=", "d/k=1", "d/m=07")
	wantPairs(t, l, mapBy("b", "double"), "a/k=Ab", "a/m= 1 ", "b/k=14", "b/m=16", "c/k=", "d/k=1", "d/m=07")
	// The first value, the second one, the only one has no double.
	wantRefused(t, api.ErrStepValue, l, mapBy("a", "double"), mapBy("d", "double"), mapBy("c", "double"))
	wantSame(t, l, mapBy("c", "upper"), mapBy("c", "trim"), mapBy("q", "double"), mapBy("q", "upper"), mapBy("k", "double"))
	for _, name := range theFunctions {
		wantSame(t, nil, mapBy("a", name))
	}
	wantRefused(t, api.ErrStepForm, l, mapBy("a", "none"), mapBy("q", "none"), mapBy("q", ""), mapBy("q", "Upper"))
}

// A value of 200 bytes may stand there, whatever it is.
func TestLongValues(t *testing.T) {
	l := pairs("a/k="+strings.Repeat("a", 200), "a/m="+strings.Repeat("\xff", 200), "b/k="+long(200))
	wantSame(t, l, drop("c", ""), mapBy("a", "lower"), mapBy("a", "reverse"), mapBy("a", "trim"))
	wantRefused(t, api.ErrStepValue, l, mapBy("a", "double"))
	wantPairs(t, l, mapBy("a", "upper"), "a/k="+strings.Repeat("A", 200), "a/m="+strings.Repeat("\xff", 200), "b/k="+long(200))
}

// no are lists that are no pairs, whatever the step.
func no() [][]api.Pair {
	return [][]api.Pair{
		pairs("b/k=1", "a/k=1"), pairs("a/m=1", "a/k=1"), pairs("b/k=1", "a/m=1"), pairs("a-/k=1", "a/k=1"), pairs("a/ab=1", "a/a=1"),
		pairs("a/k=1", "a/k=2"), pairs("a/k=1", "a/k=1"), pairs("a/k=1", "b/k=1", "b/k=2"), pairs("a/k=1", "b/k=1", "a/k=1"), pairs("a/k=1", "b/k=1", "a/m=1"),
		{{}}, pairs("a/=1"), pairs("/k=1"), pairs("A/k=1"), pairs("a/K=1"), pairs("a b/k=1"), pairs("a/k k=1"), pairs("a/k=1", "a/m\n=1"), pairs("\xff/k=1"),
		pairs(strings.Repeat("a", 33) + "/k=1"), pairs("a/" + strings.Repeat("k", 33) + "=1"),
		pairs("a/k=" + strings.Repeat("v", 201)), pairs("a/k=1", "b/k="+strings.Repeat("v", 201)), pairs("a/k=" + strings.Repeat("v", 1<<20)),
		many("a", 501), many("a", 1000), slices.Repeat(pairs("a/k=1"), 501), make([]api.Pair, 501), make([]api.Pair, 1<<16),
	}
}

// someSteps are right; wrongSteps are not.
func someSteps() []api.Step {
	return []api.Step{put("a", "z", "7"), put("a", "k", "7"), drop("a", ""), drop("a", "k"), drop("q", ""), rename("a", "k", "z"), rename("a", "k", "k"), retable("a", "z"), retable("a", "b"), mapBy("a", "double"), mapBy("a", "upper"), copyTo("a", "k", "z"), copyTo("a", "k", "k")}
}

func wrongSteps() []api.Step {
	return []api.Step{{}, {Kind: 99}, {Kind: 7, Table: "a", Key: "k"}, {Kind: -1, Table: "a"}, put("A", "k", "7"), put("a", "k", long(201)), put("a", "", "7"), drop("", "k"), rename("a", "k", ""), retable("a", ""), mapBy("a", "none"), copyTo("a", "", "z")}
}

// The list is looked at first.
func TestListsThatAreNoPairs(t *testing.T) {
	for _, l := range no() {
		wantRefused(t, api.ErrArg, l, someSteps()...)
		wantRefused(t, api.ErrArg, l, wrongSteps()...)
	}
}

// Each pair of a list that is right, made wrong in each way.
func TestOneWrongPairAmongMany(t *testing.T) {
	whole := append(many("a", 20), many("b", 20)...)
	for at := range whole {
		for _, wrong := range []func(*api.Pair){
			func(p *api.Pair) { p.Table = "" },
			func(p *api.Pair) { p.Key = "" },
			func(p *api.Pair) { p.Table += "A" },
			func(p *api.Pair) { p.Key += " " },
			func(p *api.Pair) { p.Value = strings.Repeat("v", 201) },
		} {
			l := slices.Clone(whole)
			wrong(&l[at])
			wantRefused(t, api.ErrArg, l, drop("q", ""), put("a", "z", ""), api.Step{})
		}
		if at > 0 {
			l := slices.Clone(whole)
			l[at-1], l[at] = l[at], l[at-1]
			wantRefused(t, api.ErrArg, l, drop("q", ""), drop("a", ""))
			l[at] = l[at-1]
			wantRefused(t, api.ErrArg, l, drop("q", ""), drop("a", ""))
		}
	}
	wantSame(t, whole, drop("q", ""))
}

// The step is looked at ahead of what it would do.
func TestStepsThatAreNotRight(t *testing.T) {
	for _, l := range [][]api.Pair{nil, {}, example(), many("a", 500)} {
		wantRefused(t, api.ErrStepForm, l, wrongSteps()...)
	}
}

// What the table tells stands ahead of ErrStepMany.
func TestFiveHundredPairs(t *testing.T) {
	for _, l := range [][]api.Pair{many("a", 500), append(many("a", 250), many("b", 250)...), append(many("a", 499), pairs("b/k000=x")...)} {
		wantRefused(t, api.ErrStepMany, l, put("a", "z", "7"), put("a", "a", ""), put("z", "k000", "7"), put("0", "0", "7"), copyTo("a", "k000", "z"), copyTo("a", "k200", "a"))
		wantRefused(t, api.ErrStepTaken, l, put("a", "k000", "7"), copyTo("a", "k000", "k001"), copyTo("a", "k000", "k000"), rename("a", "k000", "k001"), rename("a", "k000", "k000"), retable("a", "a"))
		wantRefused(t, api.ErrStepForm, l, put("a", "Z", "7"), copyTo("a", "k000", ""))
		wantSame(t, l, copyTo("a", "z", "k000"), copyTo("a", "z", "y"), copyTo("z", "k000", "k001"), drop("z", ""), mapBy("a", "trim"))
		for _, s := range []api.Step{rename("a", "k000", "z"), rename("a", "k100", "a"), retable("a", "z"), retable("a", "0"), mapBy("a", "reverse"), mapBy("z", "double")} {
			if got, e := checkApply(t, l, s); len(got) != 500 || e != api.OK {
				t.Errorf("%+v: %d pairs, %d", s, len(got), e)
			}
		}
		checkApply(t, l, drop("a", "k007"))
		checkApply(t, l, drop("a", ""))
	}
}

func TestTheFiveHundredthPair(t *testing.T) {
	l := many("a", 499)
	for _, s := range []api.Step{put("a", "z", "7"), put("0", "z", "7"), put("z", "z", "7"), copyTo("a", "k000", "z"), copyTo("a", "k498", "a")} {
		got, e := checkApply(t, l, s)
		if len(got) != 500 || e != api.OK {
			t.Errorf("%+v: %d pairs, %d", s, len(got), e)
		}
		wantRefused(t, api.ErrStepMany, got, put("q", "q", ""))
	}
}

// Tables and keys of which one goes on from another one, in each order of bytes.
func TestTablesAndKeysThatGoOn(t *testing.T) {
	l := pairs("a/a=1", "a/a-=2", "a/a.=3", "a/a0=4", "a/a_=5", "a/aa=6", "a-/a=7", "a./0=8", "a0/a=9", "a_/a=10", "aa/a=11")
	wantSame(t, l, drop("z", ""))
	wantPairs(t, l[:6], retable("a", "a_"), "a_/a=1", "a_/a-=2", "a_/a.=3", "a_/a0=4", "a_/a_=5", "a_/aa=6")
	for _, word := range []string{"-", ".", "0", "9", "_", "a", "a-", "a--", "a-a", "a.", "a0", "a_", "aa", "ab", "z"} {
		for _, p := range l {
			for _, s := range []api.Step{put(p.Table, word, ""), put(word, p.Key, ""), drop(p.Table, word), drop(word, ""), rename(p.Table, p.Key, word), copyTo(p.Table, p.Key, word), retable(p.Table, word), mapBy(word, "double")} {
				checkApply(t, l, s)
			}
		}
	}
}
