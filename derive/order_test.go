package derive_test

import (
	"slices"
	"strings"
	"testing"

	"tinderbox/api"
	"tinderbox/derive"
)

// D2

// wantOrder: rules are taken in this order of their Targets, written with blanks between.
func wantOrder(t *testing.T, l []api.Rule, want string) {
	t.Helper()
	order, e := checkOrder(t, l)
	if targets := targetsIn(l, order); e != api.OK || !slices.Equal(targets, strings.Fields(want)) {
		t.Errorf("Order of %+v: %q, %d; not %q", l, targets, e, want)
	}
}

func targetsIn(l []api.Rule, order []int) []string {
	var targets []string
	for _, at := range order {
		targets = append(targets, l[at].Target)
	}
	return targets
}

func wantNoOrder(t *testing.T, l []api.Rule, want api.Errno) {
	t.Helper()
	if order, e := checkOrder(t, l); len(order) != 0 || e != want {
		t.Errorf("Order of %.500v: %v, %d; not %d", l, order, e, want)
	}
}

// sums are rules of OpSum: each text is a Target and its needs, with blanks between.
func sums(texts ...string) []api.Rule {
	var l []api.Rule
	for _, text := range texts {
		target, needs, _ := strings.Cut(text, " ")
		l = append(l, rule(target, api.OpSum, needs, 0))
	}
	return l
}

func TestOrderExamples(t *testing.T) {
	if order, e := checkOrder(t, derive.Standard()); e != api.OK || !slices.Equal(order, []int{1, 0, 2}) {
		t.Errorf("Order of the standard rules: %v, %d", order, e)
	}
	wantNoOrder(t, sums("boot.limit boot.workers", "boot.limit boot.workers"), api.ErrDeriveTwice)
	wantNoOrder(t, sums("boot.limit boot.workers", "boot.workers boot.limit"), api.ErrDeriveLoop)
	for _, r := range []api.Rule{rule("boot.limit", api.OpShare, "net.port", 0), rule("Boot", api.OpSum, "net.port", 0), rule("boot.limit", api.OpSum, "", 0)} {
		wantNoOrder(t, rules(r), api.ErrDeriveForm)
	}
}

func TestOrderOfFewRules(t *testing.T) {
	wantOrder(t, nil, "")
	wantOrder(t, []api.Rule{}, "")
	wantOrder(t, sums("b a"), "b")
	wantOrder(t, sums("b a", "c a"), "b c")
	wantOrder(t, sums("c a", "b a"), "b c")
	wantOrder(t, sums("b c", "c a"), "c b")
	wantOrder(t, sums("c b", "b a"), "b c")
	// Several times among the needs, and beside others.
	wantOrder(t, sums("b x c c y", "c a c2 x"), "c b")
	// Texts rise by their bytes, a beginning ahead of what goes on from it.
	wantOrder(t, sums("b x", "ab x", "a0 x", "a x", "a.b x", "aa x", "a.b.c x", "z x"), "a a.b a.b.c a0 aa ab b z")
	// Needs that are beginnings of Targets, or go on from them, are none of them.
	wantOrder(t, sums("a a.b.c aa", "a.b a0", "b a.b"), "a a.b b")
}

// The least one that can be taken is the next one, also if it can be taken but then.
func TestTheLeastIsTakenFirst(t *testing.T) {
	wantOrder(t, sums("a y", "b x", "y x", "z x"), "b y a z")
	wantOrder(t, sums("a z", "b a", "y x", "z x", "c x"), "c y z a b")
	wantOrder(t, sums("a b", "b c", "c x", "d x"), "c b a d")
	wantOrder(t, sums("m x", "a m", "n a", "b n", "l x"), "l m a n b")
	wantOrder(t, sums("a d", "b d", "c d", "d x", "e x"), "d a b c e")
	wantOrder(t, sums("d x", "a b c d", "b c d", "c d"), "d c b a")
}

func TestHowManyRulesThereMayBe(t *testing.T) {
	var l []api.Rule
	all := ""
	for n := range 32 {
		l = append(l, rule(numbered(31-n), api.OpSum, "x", n))
		all = numbered(31-n) + " " + all
	}
	wantOrder(t, l, all)
	wantOrder(t, l[1:], strings.TrimSuffix(strings.TrimSpace(all), " "+l[0].Target))
	// Too many come first, whatever else is wrong.
	more := rule("more", api.OpSum, "x", 0)
	for _, one := range []api.Rule{more, l[5], {}, rule("more", api.OpSum, "more", 0), rule("more", 7, "x", 0)} {
		wantNoOrder(t, append(slices.Clip(l), one), api.ErrArg)
		wantNoOrder(t, append(rules(one), l...), api.ErrArg)
	}
	wantNoOrder(t, make([]api.Rule, 33), api.ErrArg)
	wantNoOrder(t, make([]api.Rule, 32), api.ErrDeriveForm)
	wantNoOrder(t, slices.Repeat(rules(more), 33), api.ErrArg)
	wantNoOrder(t, slices.Repeat(rules(more), 32), api.ErrDeriveTwice)
	wantNoOrder(t, make([]api.Rule, 1<<20), api.ErrArg)
}

// wrongOnes are rules that are not right.
func wrongOnes() []api.Rule {
	return []api.Rule{{}, rule("Boot", 1, "x", 0), rule("t", 0, "x", 0), rule("t", 7, "x", 0), rule("t", 1, "", 0), rule("t", 1, "x X", 0), rule("t", 1, "x x x x x x x x x", 0), rule("t", 5, "x x", 1), rule("t", 5, "x", 0), rule("t", 2, "x", 1<<31+1), rule("t", 3, "x", -1<<31-1)}
}

// What is not right comes ahead of two of one Target, these ahead of rings; wherever they stand.
func TestWhichErrorComesFirst(t *testing.T) {
	two, ring := sums("a x", "a x"), sums("b c", "c b")
	itself := sums("d d")
	for _, l := range [][]api.Rule{two, sums("a x", "b x", "a y"), sums("b x", "c x", "a y", "c z", "d x"), slices.Concat(two, ring), slices.Concat(ring, two), slices.Concat(two, itself), slices.Concat(itself, two), sums("a a", "a a"), sums("a b", "b a", "a b"), sums("a b", "a c", "b a")} {
		wantNoOrder(t, l, api.ErrDeriveTwice)
		for _, wrong := range wrongOnes() {
			for at := range len(l) + 1 {
				wantNoOrder(t, slices.Insert(slices.Clone(l), at, wrong), api.ErrDeriveForm)
			}
		}
	}
	for _, l := range [][]api.Rule{ring, itself, sums("a x", "b c", "c b")} {
		wantNoOrder(t, l, api.ErrDeriveLoop)
		for _, wrong := range wrongOnes() {
			wantNoOrder(t, append(rules(wrong), l...), api.ErrDeriveForm)
			wantNoOrder(t, append(slices.Clip(l), wrong), api.ErrDeriveForm)
		}
	}
	// Two that are the same but for their Targets are not two of one.
	wantOrder(t, sums("a x", "b x"), "a b")
}

func TestRulesThatNeedTheirOwnTargets(t *testing.T) {
	wantNoOrder(t, sums("a a"), api.ErrDeriveLoop)
	wantNoOrder(t, sums("a x a y"), api.ErrDeriveLoop)
	wantNoOrder(t, sums("b x", "a a", "c x"), api.ErrDeriveLoop)
	wantNoOrder(t, sums("b x x x x x x x b"), api.ErrDeriveLoop)
	wantNoOrder(t, rules(rule("a", api.OpShare, "a", 5)), api.ErrDeriveLoop)
	wantNoOrder(t, rules(rule("a", api.OpCount, "a", 5)), api.ErrDeriveLoop)
}

// ring are rules each of which needs the next one's Target, the last one the first one's.
func ring(count int) []api.Rule {
	var l []api.Rule
	for n := range count {
		l = append(l, rule(numbered(n), api.OpSum, numbered((n+1)%count), 0))
	}
	return l
}

// Rings of all lengths; with a rule less they are rows.
func TestRingsAndRows(t *testing.T) {
	x := numbers(2)
	for count := 1; count <= 32; count++ {
		l := ring(count)
		wantNoOrder(t, l, api.ErrDeriveLoop)
		wantNoOrder(t, x.shuffled(l), api.ErrDeriveLoop)
		slices.Reverse(l)
		wantNoOrder(t, l, api.ErrDeriveLoop)
		for without := range l {
			row := x.shuffled(slices.Delete(slices.Clone(l), without, without+1))
			if order, e := checkOrder(t, row); e != api.OK || len(order) != count-1 {
				t.Errorf("Order of a row of %d: %v, %d", count-1, order, e)
			}
		}
	}
}

// Rules that hang on a ring, and rules that a ring hangs on, near and far, leave it a ring.
func TestRingsWithOthers(t *testing.T) {
	for count := 1; count <= 8; count++ {
		for _, others := range [][]api.Rule{
			sums("a na"),
			sums("z na"),
			sums("a z", "z na"),
			sums("z a", "a na", "b x", "c b"),
			sums("a x", "b a", "z b"),
		} {
			l := append(ring(count), others...)
			wantNoOrder(t, l, api.ErrDeriveLoop)
			slices.Reverse(l)
			wantNoOrder(t, l, api.ErrDeriveLoop)
			// What the ring's rules need besides does not help them.
			for i := range l[:count] {
				l[i].Needs = append(l[i].Needs, "a", "x")
			}
			checkOrder(t, l)
		}
		two := ring(count)
		two = append(two, sums("aa ab", "ab ac", "ac aa")...)
		wantNoOrder(t, two, api.ErrDeriveLoop)
	}
}

// A row that ends in a ring, and a ring that ends in a row.
func TestLongRowsAndRings(t *testing.T) {
	l := ring(32)
	// The last one needs another one than the first.
	for at := range 32 {
		l[31].Needs = []string{numbered(at)}
		wantNoOrder(t, l, api.ErrDeriveLoop)
	}
	l[31].Needs = []string{"x"}
	var falling []string
	for n := range 32 {
		falling = append(falling, numbered(31-n))
	}
	wantOrder(t, l, strings.Join(falling, " "))
	slices.Reverse(l)
	wantOrder(t, l, strings.Join(falling, " "))
	// Each one needs as many of those behind it as it may.
	for i := range l {
		l[i].Needs = falling[max(0, i-8):i]
		if i == 0 {
			l[i].Needs = []string{"x"}
		}
	}
	wantOrder(t, l, strings.Join(falling, " "))
	l[0].Needs = []string{"x", "x", "x", "x", "x", "x", "x", falling[31]}
	wantNoOrder(t, l, api.ErrDeriveLoop)
}

// All ways in which rules of three Targets may need these, and others.
func TestAllFewRules(t *testing.T) {
	names := []string{"a", "b", "c", "x"}
	needs := func(which int) []string {
		var l []string
		for at, name := range names {
			if which>>at&1 == 1 {
				l = append(l, name)
			}
		}
		return l
	}
	told := map[api.Errno]int{}
	for which := range 1 << 12 {
		l := []api.Rule{{Target: "b", Needs: needs(which & 15), Op: 2}, {Target: "a", Needs: needs(which >> 4 & 15), Op: 3}, {Target: "c", Needs: needs(which >> 8), Op: 6}}
		_, e := checkOrder(t, l)
		told[e]++
	}
	// Of the needs of each that has some there are 15 sorts; 7 without its own Target.
	if told[api.ErrDeriveForm] != 1<<12-15*15*15 || told[api.OK] == 0 || told[api.ErrDeriveLoop] == 0 {
		t.Errorf("told: %v", told)
	}
}

// rules are some of Targets of their own, often without rings.
func (x *numbers) rules() []api.Rule {
	count := x.next() % 34
	row := x.row(count)
	var l []api.Rule
	for i, at := range row {
		r := api.Rule{Target: numbered(at), Op: 1 + x.next()%4}
		for range 1 + x.next()%4 {
			need := numbered(row[x.next()%(i+1)])
			if need == r.Target && x.next()%100 > 0 {
				need = "x"
			}
			r.Needs = append(r.Needs, need)
		}
		l = append(l, r)
	}
	if count > 1 && x.next()%8 == 0 {
		l[x.next()%count].Needs[0] = numbered(x.next() % count)
	}
	if count > 1 && x.next()%20 == 0 {
		l[x.next()%count].Target = numbered(x.next() % count)
	}
	if count > 0 && x.next()%20 == 0 {
		l[x.next()%count].Op = 7
	}
	return x.shuffled(l)
}

func TestOrderOfRandomRules(t *testing.T) {
	x := numbers(3)
	told := map[api.Errno]int{}
	for range 6000 {
		_, e := checkOrder(t, x.rules())
		told[e]++
	}
	for _, e := range []api.Errno{api.OK, api.ErrArg, api.ErrDeriveForm, api.ErrDeriveTwice, api.ErrDeriveLoop} {
		if told[e] < 50 {
			t.Errorf("%d was told %d times", e, told[e])
		}
	}
}
