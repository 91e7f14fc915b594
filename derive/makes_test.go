package derive_test

import (
	"math"
	"slices"
	"testing"

	"tinderbox/api"
	"tinderbox/key"
)

// D3: what rules make

// wantMakes: on own settings with these numbers of a, a.b and a.b.c a rule gives ab that number.
func wantMakes(t *testing.T, r api.Rule, abc [3]int, want int) {
	t.Helper()
	x := own(t)
	for i, name := range []string{"a", "a.b", "a.b.c"} {
		putNumber(t, x, name, abc[i], api.FromFile)
	}
	wantMade(t, ownSet(), x, rules(r), map[string]int{"ab": want})
}

// wantNothing: likewise the rule makes nothing.
func wantNothing(t *testing.T, r api.Rule, abc [3]int) {
	t.Helper()
	x := own(t)
	for i, name := range []string{"a", "a.b", "a.b.c"} {
		putNumber(t, x, name, abc[i], api.FromFile)
	}
	wantRefused(t, ownSet(), x, rules(r), api.ErrDeriveRange, "ab")
}

func TestSums(t *testing.T) {
	sum := func(needs string, add int) api.Rule { return rule("ab", api.OpSum, needs, add) }
	wantMakes(t, sum("a", 0), [3]int{7}, 7)
	wantMakes(t, sum("a", -8), [3]int{7}, -1)
	wantMakes(t, sum("a a.b a.b.c", 5), [3]int{1, 20, -300}, -274)
	wantMakes(t, sum("a a a.b a", 0), [3]int{10, -1}, 29)
	wantMakes(t, sum("a a a a a a a a", 1<<31), [3]int{1 << 31}, 9<<31)
	wantMakes(t, sum("a a a a a a a a", -1<<31), [3]int{-1 << 31}, -9<<31)
	// Of all kinds of numbers.
	wantMade(t, ownSet(), own(t), rules(sum("a size span below size.few", 3)), map[string]int{"ab": 1 + 1024 + 60 - 5 + 512 + 3})
}

func TestSumsAtTheEndsOfNumbers(t *testing.T) {
	sum := func(needs string, add int) api.Rule { return rule("ab", api.OpSum, needs, add) }
	for _, sign := range []int{1, -1} {
		end := sign * most62
		wantMakes(t, sum("a", 0), [3]int{end}, end)
		wantMakes(t, sum("a", sign), [3]int{end - sign}, end)
		wantMakes(t, sum("a", -sign), [3]int{end}, end-sign)
		wantMakes(t, sum("a a.b", 0), [3]int{end / 2, end / 2}, end)
		wantMakes(t, sum("a a.b", 0), [3]int{end, -end}, 0)
		wantMakes(t, sum("a a.b a a.b a a.b a", sign<<31), [3]int{end - sign<<31, -end}, end-3*sign<<31)
		wantMakes(t, sum("a a.b a.b.c", 0), [3]int{end, -end, end}, end)
		wantMakes(t, sum("a", sign<<31), [3]int{end - sign<<31}, end)
		wantNothing(t, sum("a", sign), [3]int{end})
		wantNothing(t, sum("a", sign<<31), [3]int{end - sign<<31 + sign})
		wantNothing(t, sum("a a.b", 0), [3]int{end, sign})
		wantNothing(t, sum("a a.b", 0), [3]int{end, end})
		wantNothing(t, sum("a a", 0), [3]int{end/2 + sign})
		// Beyond on the way, however it goes on; also where a number that wraps round would come back.
		wantNothing(t, sum("a a.b", -sign), [3]int{end, sign})
		wantNothing(t, sum("a a.b a.b.c", 0), [3]int{end, sign, -end})
		wantNothing(t, sum("a a.b a.b.c", 0), [3]int{end, end, -end})
		wantNothing(t, sum("a a a a", 0), [3]int{end})
		wantNothing(t, sum("a a a a a a a a", 0), [3]int{end})
		wantNothing(t, sum("a a a.b a.b", 0), [3]int{end, -end})
		wantNothing(t, sum("a a a.b a.b a a.b", 5), [3]int{end, -end})
	}
}

func TestGreatestAndLeast(t *testing.T) {
	most := func(needs string, add int) api.Rule { return rule("ab", api.OpMost, needs, add) }
	least := func(needs string, add int) api.Rule { return rule("ab", api.OpLeast, needs, add) }
	for _, abc := range [][3]int{{1, 2, 3}, {3, 2, 1}, {2, 3, 1}, {2, 1, 3}} {
		wantMakes(t, most("a a.b a.b.c", 0), abc, 3)
		wantMakes(t, most("a a.b a.b.c", 3), abc, 3)
		wantMakes(t, most("a a.b a.b.c", 4), abc, 4)
		wantMakes(t, least("a a.b a.b.c", 9), abc, 1)
		wantMakes(t, least("a a.b a.b.c", 1), abc, 1)
		wantMakes(t, least("a a.b a.b.c", 0), abc, 0)
	}
	for _, abc := range [][3]int{{-1, -2, -3}, {-3, -2, -1}, {-2, -3, -1}} {
		wantMakes(t, most("a a.b a.b.c", -9), abc, -1)
		wantMakes(t, most("a a.b a.b.c", 0), abc, 0)
		wantMakes(t, least("a a.b a.b.c", 0), abc, -3)
		wantMakes(t, least("a a.b a.b.c", -9), abc, -9)
	}
	wantMakes(t, most("a", -7), [3]int{-8}, -7)
	wantMakes(t, least("a", -8), [3]int{-7}, -8)
	wantMakes(t, most("a a a a a a a a", 0), [3]int{5}, 5)
	wantMakes(t, least("a a a a a a a a", 9), [3]int{5}, 5)
	// Nothing is added up on the way.
	wantMakes(t, most("a a a.b a a a.b a.b", 1<<31), [3]int{most62, -most62}, most62)
	wantMakes(t, least("a a a.b a a a.b a.b", -1<<31), [3]int{most62, -most62}, -most62)
	wantMakes(t, least("a a a a a a a a", 1<<31), [3]int{most62}, 1<<31)
	wantMakes(t, most("a a a a a a a a", -1<<31), [3]int{-most62}, -1<<31)
	// Of all kinds of numbers.
	wantMade(t, ownSet(), own(t), rules(most("a size span below size.few", 3)), map[string]int{"ab": 1024})
	wantMade(t, ownSet(), own(t), rules(least("a size span below size.few", 3)), map[string]int{"ab": -5})
}

func TestProducts(t *testing.T) {
	times := func(needs string, add int) api.Rule { return rule("ab", api.OpTimes, needs, add) }
	wantMakes(t, times("a", 1), [3]int{7}, 7)
	wantMakes(t, times("a", -1), [3]int{7}, -7)
	wantMakes(t, times("a", 0), [3]int{7}, 0)
	wantMakes(t, times("a a.b a.b.c", 5), [3]int{2, 3, -7}, -210)
	wantMakes(t, times("a a a", 1), [3]int{-4}, -64)
	wantMakes(t, times("a a", 1), [3]int{-4}, 16)
	wantMakes(t, times("a a a a a a a a", 2), [3]int{10}, 200000000)
	// Of all kinds of numbers.
	wantMade(t, ownSet(), own(t), rules(times("a size span below size.few", 3)), map[string]int{"ab": 1024 * 60 * -5 * 512 * 3})
}

func TestProductsAtTheEndsOfNumbers(t *testing.T) {
	times := func(needs string, add int) api.Rule { return rule("ab", api.OpTimes, needs, add) }
	for _, sign := range []int{1, -1} {
		end := sign * most62
		wantMakes(t, times("a", 1), [3]int{end}, end)
		wantMakes(t, times("a", -1), [3]int{end}, -end)
		wantMakes(t, times("a", 0), [3]int{end}, 0)
		wantMakes(t, times("a a.b", 1), [3]int{1 << 31, sign << 31}, end)
		wantMakes(t, times("a", sign<<31), [3]int{1 << 31}, end)
		wantMakes(t, times("a", sign<<31), [3]int{-1 << 31}, -end)
		wantMakes(t, times("a a.b", -1), [3]int{1 << 31, sign << 31}, -end)
		wantMakes(t, times("a a.b", 1), [3]int{1<<31 - 1, sign * (1<<31 + 1)}, end-sign)
		wantMakes(t, times("a a.b", 1), [3]int{end, -1}, -end)
		wantMakes(t, times("a a.b", 1), [3]int{-1, end}, -end)
		wantMakes(t, times("a a.b a.b.c", 1), [3]int{end / 4, -2, 2}, -end)
		wantNothing(t, times("a", 2), [3]int{end})
		wantNothing(t, times("a", 2), [3]int{end/2 + sign})
		wantNothing(t, times("a", -2), [3]int{end/2 + sign})
		wantNothing(t, times("a a.b", 1), [3]int{1 << 31, sign * (1<<31 + 1)})
		wantNothing(t, times("a a.b", 1), [3]int{end, end})
		wantNothing(t, times("a a", 1), [3]int{end})
		// 3 times a third of 2^62 and 1 more is 2^62 and 2.
		wantMakes(t, times("a", 3), [3]int{sign * (most62 / 3)}, end-sign)
		wantNothing(t, times("a", 3), [3]int{sign * (most62/3 + 1)})
		// What wraps round to 0, or to small numbers, is as far beyond.
		wantNothing(t, times("a a", 4), [3]int{sign << 31})
		wantNothing(t, times("a a", 1), [3]int{sign << 32})
		wantNothing(t, times("a a.b", 1), [3]int{sign<<32 + sign, 1<<32 + 1})
		wantNothing(t, times("a", 4), [3]int{end})
		wantNothing(t, times("a a a a", 1), [3]int{sign << 32})
		wantNothing(t, times("a a.b", 1), [3]int{sign << 61, 8})
		// Beyond on the way, however it goes on; 0 ahead of it holds it back.
		wantNothing(t, times("a a.b", 0), [3]int{end, 2})
		wantNothing(t, times("a a.b a.b.c", 5), [3]int{end, 2, 0})
		wantNothing(t, times("a a.b", 0), [3]int{sign << 32, 1 << 32})
		wantMakes(t, times("a.b.c a a a a a a a", 5), [3]int{end, 2, 0}, 0)
		wantMakes(t, times("a a.b.c a a", 5), [3]int{end, 2, 0}, 0)
	}
}

func TestQuotients(t *testing.T) {
	for _, c := range []struct{ n, add, want int }{
		{0, 1, 0}, {0, 1 << 31, 0}, {1, 1, 1}, {-1, 1, -1}, {7, 2, 3}, {-7, 2, -3}, {8, 2, 4}, {-8, 2, -4}, {1, 2, 0}, {-1, 2, 0}, {-1, 1 << 31, 0}, {999, 1000, 0}, {1000, 1000, 1}, {-999, 1000, 0}, {-1000, 1000, -1}, {-1001, 1000, -1}, {-1999, 1000, -1}, {-2000, 1000, -2},
		{most62, 1, most62}, {-most62, 1, -most62}, {most62, 2, most62 / 2}, {-most62, 2, -most62 / 2}, {most62, 1 << 31, 1 << 31}, {-most62, 1 << 31, -1 << 31}, {most62 - 1, 1 << 31, 1<<31 - 1}, {-most62 + 1, 1 << 31, -1<<31 + 1}, {1<<31 - 1, 1 << 31, 0}, {1 << 31, 1 << 31, 1}, {most62, 3, 1537228672809129301}, {-most62, 3, -1537228672809129301}, {-most62, 1<<31 - 1, -(1<<31 + 1)},
	} {
		wantMakes(t, rule("ab", api.OpShare, "a", c.add), [3]int{c.n}, c.want)
	}
	// Of all kinds of numbers.
	for name, want := range map[string]int{"size": 146, "span": 8, "below": 0, "one": 0, "size.few": 73, "span.few": 4} {
		wantMade(t, ownSet(), own(t), rules(rule("ab", api.OpShare, name, 7)), map[string]int{"ab": want})
	}
}

func TestCounts(t *testing.T) {
	for _, c := range []struct {
		needs                    string
		words, none, add, counts int
	}{
		{"w", 0, 0, 0, 0}, {"w", 3, 0, 0, 3}, {"w", 16, 0, 1, 17}, {"w", 1, 5, -9, -8}, {"w w.none", 3, 4, 5, 12}, {"w w", 3, 0, 0, 6}, {"w w.none w", 16, 1, 0, 33}, {"w w w w w w w w", 16, 0, 0, 128}, {"w", 2, 0, 1 << 31, 1<<31 + 2}, {"w", 2, 0, -1 << 31, 2 - 1<<31}, {"w.none w.none", 2, 0, 0, 0},
	} {
		x := own(t)
		putWords(t, x, "w", c.words, api.FromEnv)
		putWords(t, x, "w.none", c.none, api.FromDefault)
		wantMade(t, ownSet(), x, rules(rule("ab", api.OpCount, c.needs, c.add)), map[string]int{"ab": c.counts})
	}
	// Words are counted, whatever they are, how often they stand there and how long they are.
	x := own(t)
	put(t, x, "w", api.Value{Kind: api.Words, Words: []string{"7", "7", "a.b", longName}}, api.FromFile)
	wantMade(t, ownSet(), x, rules(rule("ab", api.OpCount, "w", 0)), map[string]int{"ab": 4})
}

// Targets of each kind that has numbers, at their bounds and beyond them.
func TestTheBoundsOfTargets(t *testing.T) {
	for _, c := range []struct {
		target      string
		least, most int
	}{
		{"ab", -most62, most62}, {longName, -9, 9}, {"below", -7, -5}, {"one", 5, 5}, {"size", 0, 1 << 50}, {"size.few", 512, 65536}, {"span", 0, 1 << 40}, {"span.few", 30, 60},
	} {
		for _, n := range []int{c.least, c.most, (c.least + c.most) / 2, c.least - 1, c.most + 1, c.least - 1<<31, c.most + 1<<31, 0, -1, 1, most62, -most62} {
			for op := api.OpSum; op <= api.OpTimes; op++ {
				r := rule(c.target, op, "a", map[int]int{api.OpSum: 0, api.OpMost: -1 << 31, api.OpLeast: 1 << 31, api.OpTimes: 1}[op])
				if n < -most62 || n > most62 || op == api.OpMost && n < r.Add || op == api.OpLeast && n > r.Add {
					continue
				}
				x := own(t)
				putNumber(t, x, "a", n, api.FromFlag)
				if n >= c.least && n <= c.most {
					wantMade(t, ownSet(), x, rules(r), map[string]int{c.target: n})
				} else {
					wantRefused(t, ownSet(), x, rules(r), api.ErrDeriveRange, c.target)
				}
			}
		}
	}
	// One beyond the ends of all numbers, by Add.
	for _, sign := range []int{1, -1} {
		wantNothing(t, rule("ab", api.OpSum, "a", sign), [3]int{sign * most62})
	}
}

// A Target stays of its kind.
func TestTargetsStayOfTheirKinds(t *testing.T) {
	for name, kind := range map[string]int{"ab": api.Int, "size": api.Size, "span": api.Span} {
		for _, need := range []string{"a", "size.few", "span.few"} {
			x := own(t)
			if e, _ := checkRun(t, ownSet(), x, rules(rule(name, api.OpSum, need, 5))); e != api.OK {
				t.Errorf("Run: %d", e)
			}
			n, _ := x.Get(need)
			if one, _ := x.Get(name); one.Value.Kind != kind || one.Value.Int != n.Value.Int+5 || one.Value.Text != "" || len(one.Value.Words) != 0 {
				t.Errorf("%s of %s: %+v", name, need, one)
			}
		}
	}
}

// manyNumbers are the ends of numbers, roots of them, and small ones.
var manyNumbers = []int{0, 1, -1, 2, -2, 3, 5, -7, 10, 1 << 20, -1 << 20, 1<<31 - 1, 1 << 31, -1 << 31, 1<<31 + 1, 1 << 32, -1 << 32, 1<<32 + 1, 1 << 40, 1 << 50, most62 / 3, most62/3 + 1, most62/2 - 1, most62 / 2, most62/2 + 1, most62 - 1<<31, most62 - 1, most62, -most62/3 - 1, -most62 / 2, -most62/2 - 1, -most62 + 1<<31, -most62 + 1, -most62, 3037000499, 3037000500, math.MaxInt32, 46341}

// Some operations on each pair of these, and on random rows of them.
func TestManyNumbers(t *testing.T) {
	s, x := ownSet(), own(t)
	told := map[api.Errno]int{}
	check := func(y *numbers, names []string) {
		op := 1 + y.next()%6
		needs := names
		switch op {
		case api.OpShare:
			needs = names[:1]
		case api.OpCount:
			needs = slices.Repeat([]string{"w"}, len(names))
		}
		r := api.Rule{Target: pick(y, []string{"ab", "ab", "size", "span", longName}), Needs: needs, Op: op, Add: pick(y, manyAdds)}
		e, _ := checkRun(t, s, x.Copy(), rules(r))
		told[e]++
	}
	y := numbers(4)
	for _, a := range manyNumbers {
		for _, b := range manyNumbers {
			putNumber(t, x, "a", a, api.FromFile)
			putNumber(t, x, "a.b", b, api.FromRule)
			putNumber(t, x, "a.b.c", pick(&y, manyNumbers), api.FromDefault)
			for range 3 {
				check(&y, []string{"a", "a.b"})
				var names []string
				for range 1 + y.next()%8 {
					names = append(names, pick(&y, []string{"a", "a.b", "a.b.c"}))
				}
				check(&y, names)
			}
		}
	}
	for _, e := range []api.Errno{api.OK, api.ErrDeriveForm, api.ErrDeriveRange} {
		if told[e] < 500 {
			t.Errorf("%d was told %d times", e, told[e])
		}
	}
}

// The standard settings' bounds.
func TestTheBoundsOfStandardSettings(t *testing.T) {
	s := key.Standard()
	for _, c := range []struct {
		r    api.Rule
		want api.Errno
	}{
		{rule("boot.limit", api.OpSum, "log.level", 1022), api.OK},
		{rule("boot.limit", api.OpSum, "log.level", 1023), api.ErrDeriveRange},
		{rule("boot.limit", api.OpSum, "log.level", -2), api.OK},
		{rule("boot.limit", api.OpSum, "log.level", -3), api.ErrDeriveRange},
		{rule("net.port", api.OpTimes, "log.level", 0), api.ErrDeriveRange},
		{rule("net.port", api.OpShare, "log.level", 2), api.OK},
		{rule("net.port", api.OpShare, "log.level", 3), api.ErrDeriveRange},
		{rule("log.keep", api.OpMost, "net.timeout store.blocks", 2592000), api.OK},
		{rule("log.keep", api.OpMost, "net.timeout store.blocks", 2592001), api.ErrDeriveRange},
		{rule("store.page", api.OpCount, "boot.services net.peers", 510), api.OK},
		{rule("store.page", api.OpCount, "boot.services net.peers", 509), api.ErrDeriveRange},
		{rule("store.cache", api.OpLeast, "net.port", 0), api.OK},
		{rule("store.cache", api.OpLeast, "net.port", -1), api.ErrDeriveRange},
	} {
		if e, _ := checkRun(t, s, given(t, s, api.FromFile), rules(c.r)); e != c.want {
			t.Errorf("Run of %+v: %d, not %d", c.r, e, c.want)
		}
	}
}
