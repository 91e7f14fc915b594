package derive_test

import (
	"slices"
	"strconv"
	"strings"
	"testing"

	"tinderbox/api"
	"tinderbox/derive"
	"tinderbox/key"
	"tinderbox/layer"
)

// D3: the chapter's examples

func TestRunExamples(t *testing.T) {
	s := key.Standard()
	wantMade(t, s, given(t, s, api.FromFile), derive.Standard(), map[string]int{"boot.workers": 3, "boot.limit": 48, "store.page": 4096})

	x := given(t, s, api.FromFlag, "boot.workers", "60")
	wantMade(t, s, x, derive.Standard(), map[string]int{"boot.limit": 960})
	wantHeld(t, x, "boot.workers", 60, api.FromFlag)
	x = given(t, s, api.FromFlag, "boot.workers", "64")
	wantMade(t, s, x, derive.Standard(), map[string]int{"boot.limit": 1024})
	wantHeld(t, x, "boot.workers", 64, api.FromFlag)
	x = given(t, s, api.FromFlag, "boot.workers", "0")
	wantMade(t, s, x, derive.Standard(), map[string]int{"boot.limit": 0})
	wantHeld(t, x, "boot.workers", 0, api.FromFlag)
	x = given(t, s, api.FromFlag, "boot.services", strings.Repeat("w,", 15)+"w")
	wantMade(t, s, x, derive.Standard(), map[string]int{"boot.workers": 17, "boot.limit": 272})
	x = given(t, s, api.FromFlag, "boot.services", "")
	wantMade(t, s, x, derive.Standard(), map[string]int{"boot.workers": 1, "boot.limit": 16})

	wantRefused(t, s, given(t, s, api.FromFlag, "store.cache", "100"), derive.Standard(), api.ErrDeriveRange, "store.page")
	x = given(t, s, api.FromFlag, "store.cache", "100", "store.page", "1k")
	wantMade(t, s, x, derive.Standard(), map[string]int{"boot.workers": 3, "boot.limit": 48})
	wantHeld(t, x, "store.page", 1024, api.FromFlag)

	x = given(t, s, api.FromFile)
	limit := rule("boot.limit", api.OpSum, "boot.workers", 0)
	wantRefused(t, s, x, rules(limit, limit), api.ErrDeriveTwice, "")
	wantRefused(t, s, x, rules(limit, rule("boot.workers", api.OpSum, "boot.limit", 0)), api.ErrDeriveLoop, "")
	wantRefused(t, s, x, rules(rule("boot.limit", api.OpSum, "net.host", 0)), api.ErrDeriveName, "boot.limit")
	for _, r := range rules(rule("boot.limit", api.OpShare, "net.port", 0), rule("Boot", api.OpSum, "net.port", 0), rule("boot.limit", api.OpSum, "", 0)) {
		wantRefused(t, s, x, rules(r), api.ErrDeriveForm, "")
	}
}

// The standard rules, with each cache near to the bounds of pages.
func TestStandardPages(t *testing.T) {
	s := key.Standard()
	for cache, want := range map[int]int{512 << 10: 512, 512<<10 + 1023: 512, 513 << 10: 513, 4 << 20: 4096, 64 << 20: 65536, 64<<20 + 1023: 65536} {
		x := given(t, s, api.FromEnv, "store.cache", strconv.Itoa(cache))
		wantMade(t, s, x, derive.Standard(), map[string]int{"store.page": want, "boot.limit": 48})
		wantHeld(t, x, "store.cache", cache, api.FromEnv)
	}
	for _, cache := range []int{0, 1, 1023, 1024, 512<<10 - 1, 64<<20 + 1024, 1 << 30} {
		wantRefused(t, s, given(t, s, api.FromEnv, "store.cache", strconv.Itoa(cache)), derive.Standard(), api.ErrDeriveRange, "store.page")
	}
}

// D3: what is refused

// refusedByOrder are rules that Order refuses, by its error.
func refusedByOrder() map[api.Errno][]api.Rule {
	return map[api.Errno][]api.Rule{
		api.ErrArg:         slices.Repeat(sums("none none"), 33),
		api.ErrDeriveForm:  sums("none x", "none x", "b c", "c b", "A x"),
		api.ErrDeriveTwice: sums("none x", "none x", "b c", "c b"),
		api.ErrDeriveLoop:  sums("none text", "b c", "c b"),
	}
}

// What Order refuses comes ahead of all that settings have to do with.
func TestWhatOrderRefusesComesFirst(t *testing.T) {
	none := given(t, key.New(), api.FromFile)
	for e, l := range refusedByOrder() {
		wantNoOrder(t, l, e)
		wantRefused(t, ownSet(), own(t), l, e, "")
		wantRefused(t, key.New(), none, l, e, "")
		if got, name := derive.Run(nil, l); got != e || name != "" {
			t.Errorf("Run on nil: %d, %q; not %d", got, name, e)
		}
	}
	// Also of settings that all could be made of.
	wantRefused(t, ownSet(), own(t), sums("ab a", "size a", "size a"), api.ErrDeriveTwice, "")
	wantRefused(t, ownSet(), own(t), sums("ab a", "a a.b", "a.b a"), api.ErrDeriveLoop, "")
	for _, wrong := range wrongOnes() {
		wantRefused(t, ownSet(), own(t), append(sums("ab a"), wrong), api.ErrDeriveForm, "")
	}
}

func TestRunOfNoRules(t *testing.T) {
	for _, l := range [][]api.Rule{nil, {}} {
		wantMade(t, ownSet(), own(t), l, nil)
		wantMade(t, key.New(), given(t, key.New(), api.FromFile), l, nil)
		wantMade(t, key.New(), new(layer.Settings), l, nil)
		if e, name := derive.Run(nil, l); e != api.OK || name != "" {
			t.Errorf("Run of no rules on nil: %d, %q", e, name)
		}
	}
}

// Nil is no settings: there is none of the first Target in the order.
func TestRunOnNil(t *testing.T) {
	for want, l := range map[string][]api.Rule{"a": sums("a x"), "b": sums("a b", "c x", "b x"), "boot.workers": derive.Standard()} {
		if e, name := derive.Run(nil, l); e != api.ErrDeriveName || name != want {
			t.Errorf("Run of %+v on nil: %d, %q; not %q", l, e, name, want)
		}
		wantRefused(t, key.New(), given(t, key.New(), api.FromFile), l, api.ErrDeriveName, want)
		wantRefused(t, key.New(), new(layer.Settings), l, api.ErrDeriveName, want)
	}
}

func TestNamesThatAreNoSettings(t *testing.T) {
	s := ownSet()
	for _, op := range []int{1, 2, 3, 4, 5, 6} {
		need := "a"
		if op == api.OpCount {
			need = "w"
		}
		for _, none := range []string{"none", "a.b.d", "a.c", "aa", "size.fe", "size.few.x", "long", "b"} {
			wantRefused(t, s, own(t), rules(rule(none, op, need, 1)), api.ErrDeriveName, none)
			wantRefused(t, s, own(t), rules(rule("ab", op, none, 1)), api.ErrDeriveName, "ab")
			if op == api.OpShare {
				continue
			}
			// At each place of as many needs as there may be.
			for at := range 8 {
				needs := slices.Repeat([]string{need}, 8)
				needs[at] = none
				wantRefused(t, s, own(t), rules(api.Rule{Target: "ab", Needs: needs, Op: op, Add: 1}), api.ErrDeriveName, "ab")
			}
		}
	}
	// What the standard set has, other ones need not have; what is defined later they have not.
	wantRefused(t, s, own(t), derive.Standard(), api.ErrDeriveName, "boot.workers")
	x := own(t)
	s.Add(api.Key{Name: "later", Kind: api.Int, Default: "5", Most: 9})
	wantRefused(t, s, x, sums("later a"), api.ErrDeriveName, "later")
	wantMade(t, s, given(t, s, api.FromFile), sums("later a"), map[string]int{"later": 1})
}

// A Target, and a need at each place, of each kind.
func TestKindsThatAreAskedFor(t *testing.T) {
	s := ownSet()
	kinds := map[string]int{"no": api.Bool, "a": api.Int, "size": api.Size, "span": api.Span, "text": api.Text, "w": api.Words}
	for name, kind := range kinds {
		numeric := kind == api.Int || kind == api.Size || kind == api.Span
		for op := 1; op <= 6; op++ {
			right, asked := "a.b", numeric
			if op == api.OpCount {
				right, asked = "w.none", kind == api.Words
			}
			for _, r := range []api.Rule{rule(name, op, right, 5), rule(name, op, name, 5), rule("ab", op, name, 5)} {
				want, wantName := api.OK, ""
				switch {
				case r.Needs[0] == r.Target:
					want = api.ErrDeriveLoop
				case r.Target == name && !numeric || r.Target == "ab" && !asked:
					want, wantName = api.ErrDeriveName, r.Target
				}
				if e, got := checkRun(t, s, own(t), rules(r)); e != want || got != wantName {
					t.Errorf("Run of %+v: %d, %q; not %d, %q", r, e, got, want, wantName)
				}
			}
			if op == api.OpShare || asked {
				continue
			}
			for at := range 8 {
				needs := slices.Repeat([]string{right}, 8)
				needs[at] = name
				wantRefused(t, s, own(t), rules(api.Rule{Target: "ab", Needs: needs, Op: op}), api.ErrDeriveName, "ab")
			}
		}
	}
}

// Several at once: the first one in the order of rules is told, not in the list, nor by Targets alone; ahead of all that is out of bounds.
func TestWhichNameIsTold(t *testing.T) {
	s := ownSet()
	for _, c := range []struct {
		l    []api.Rule
		want string
	}{
		{sums("b x", "c x", "a.c x"), "a.c"},
		{sums("z x", "y x"), "y"},
		{sums("ab x", "a y", "no a"), "a"},
		{sums("aa z", "z x"), "z"},
		{sums("aa z", "z zz", "zz x", "b a"), "b"},
		{sums("aa z", "z zz", "zz x", "b aa"), "zz"},
		{sums("text a", "no a", "w a"), "no"},
		{sums("no text", "text a"), "text"},
		{sums("ab size", "size no", "span text"), "size"},
		{sums("one a", "ab none", "span none"), "ab"},
		{sums("one a", "below a", "ab size", "size text"), "size"},
	} {
		x := numbers(5)
		for range 8 {
			wantRefused(t, s, own(t), x.shuffled(c.l), api.ErrDeriveName, c.want)
		}
	}
	// A rule whose Target somebody gave names what it names all the same.
	for _, from := range []int{1, 2, 3, 4} {
		wantRefused(t, s, given(t, s, from, "ab", "7"), sums("ab none"), api.ErrDeriveName, "ab")
		wantRefused(t, s, given(t, s, from, "ab", "7"), sums("ab text"), api.ErrDeriveName, "ab")
		wantRefused(t, s, given(t, s, from, "text", "7"), sums("text a"), api.ErrDeriveName, "text")
	}
}

// Of several that make what may not be, the first one in the order is told.
func TestWhichRangeIsTold(t *testing.T) {
	s := ownSet()
	for _, c := range []struct {
		l    []api.Rule
		want string
	}{
		{sums("one a", "below a"), "below"},
		{sums("span.few a", "one a", "size.few a"), "one"},
		{sums("below one", "one a"), "one"},
		{sums("one span", "size.few a", "span size"), "size.few"},
		{sums("one span.few", "size.few one", "span.few a"), "span.few"},
		{sums("ab a", "one ab", "span ab"), "one"},
	} {
		x := numbers(6)
		for range 8 {
			wantRefused(t, s, own(t), x.shuffled(c.l), api.ErrDeriveRange, c.want)
		}
	}
}

// A rule that makes nothing, or what may not be, behind as many as there may be that made something: nothing is changed, of values and of origins.
func TestNothingIsChangedBehindAnError(t *testing.T) {
	s := key.New()
	var l []api.Rule
	for n := range 33 {
		s.Add(api.Key{Name: numbered(n), Kind: api.Int, Default: strconv.Itoa(n), Most: 10000, Least: -10000})
	}
	for n := range 32 {
		l = append(l, rule(numbered(n), api.OpSum, numbered(n+1), 1))
	}
	x := given(t, s, api.FromFile)
	putNumber(t, x, numbered(7), -77, api.FromRule)
	wantMade(t, s, x.Copy(), l, map[string]int{numbered(31): 33, numbered(7): 57, numbered(0): 64})
	for at := range l {
		was := l[at]
		for _, wrong := range []api.Rule{rule(was.Target, api.OpSum, was.Needs[0], 1<<31), rule(was.Target, api.OpTimes, strings.Repeat(was.Needs[0]+" ", 8), -1<<31)} {
			l[at] = wrong
			wantRefused(t, s, x, l, api.ErrDeriveRange, was.Target)
		}
		l[at] = rule(was.Target, api.OpCount, was.Needs[0], 1)
		wantRefused(t, s, x, l, api.ErrDeriveName, was.Target)
		l[at] = rule(was.Target, api.OpSum, was.Needs[0]+" none", 1)
		wantRefused(t, s, x, l, api.ErrDeriveName, was.Target)
		l[at] = was
	}
	wantMade(t, s, x, l, map[string]int{numbered(31): 33, numbered(7): 57, numbered(0): 64})
	// Behind rules that made something, and had made it already.
	l[0].Add = 1 << 31
	wantRefused(t, s, x, l, api.ErrDeriveRange, numbered(0))
}

// D3: origins

// A Target is made where it is from its default, or from a rule; where somebody gave it, it stays, whatever the rule would make.
func TestTargetsOfEachOrigin(t *testing.T) {
	s := ownSet()
	for from := api.FromDefault; from <= api.FromRule; from++ {
		made := from == api.FromDefault || from == api.FromRule
		for name, n := range map[string]int{"ab": 70, "size": 71, "span": 72} {
			x := own(t)
			putNumber(t, x, name, n, from)
			want, origin := n, from
			if made {
				want, origin = 6, api.FromRule
			}
			wantMade(t, s, x, rules(rule(name, api.OpSum, "a", 5)), nil)
			wantHeld(t, x, name, want, origin)
			wantHeld(t, x, "a", 1, api.FromDefault)
		}
		// What would be refused.
		for _, r := range []api.Rule{rule("one", api.OpSum, "a", 9), rule("one", api.OpTimes, "ab ab a.b", 1)} {
			x := own(t)
			putNumber(t, x, "one", 5, from)
			putNumber(t, x, "ab", most62, api.FromFile)
			if made {
				wantRefused(t, s, x, rules(r), api.ErrDeriveRange, "one")
			} else {
				wantMade(t, s, x, rules(r), nil)
			}
			wantHeld(t, x, "one", 5, from)
		}
	}
}

// Where needs are from does not matter, whether they are made or given.
func TestNeedsOfEachOrigin(t *testing.T) {
	s := ownSet()
	for from := api.FromDefault; from <= api.FromRule; from++ {
		x := own(t)
		putNumber(t, x, "a", 7, from)
		putNumber(t, x, "size", 8, from)
		putWords(t, x, "w", 2, from)
		wantMade(t, s, x, rules(rule("ab", api.OpTimes, "a size", 2), rule("span", api.OpCount, "w w.none", 2)), map[string]int{"ab": 112, "span": 4})
		wantHeld(t, x, "a", 7, from)
		wantHeld(t, x, "size", 8, from)
	}
}

// Rules make of what others made just ahead, and of what somebody gave in between.
func TestRulesThatNeedOneAnother(t *testing.T) {
	s := ownSet()
	l := rules(rule("a", api.OpSum, "a.b", 1), rule("a.b", api.OpTimes, "ab ab", 1), rule("ab", api.OpCount, "w", 0), rule("size", api.OpMost, "a a.b ab", 0))
	x := numbers(7)
	for range 20 {
		wantMade(t, s, own(t), x.shuffled(l), map[string]int{"ab": 3, "a.b": 9, "a": 10, "size": 10})
		y := given(t, s, api.FromStore, "a.b", "100")
		wantMade(t, s, y, x.shuffled(l), map[string]int{"ab": 3, "a": 101, "size": 101})
		wantHeld(t, y, "a.b", 100, api.FromStore)
		y = given(t, s, api.FromEnv, "a", "-1", "ab", "2")
		wantMade(t, s, y, x.shuffled(l), map[string]int{"a.b": 4, "size": 4})
		wantHeld(t, y, "a", -1, api.FromEnv)
		wantHeld(t, y, "ab", 2, api.FromEnv)
	}
}

// As many rules as there may be, in a row: each one makes of what the one ahead of it made.
func TestTheLongestRowOfRules(t *testing.T) {
	s := key.New()
	for n := range 33 {
		s.Add(api.Key{Name: numbered(n), Kind: api.Int, Default: "1", Least: -most62, Most: most62})
	}
	for _, rising := range []bool{true, false} {
		name := numbered
		if !rising {
			name = func(n int) string { return numbered(32 - n) }
		}
		var l []api.Rule
		for n := range 32 {
			l = append(l, rule(name(n+1), api.OpTimes, name(n), 3))
		}
		want, n := map[string]int{}, 1
		for at := range 32 {
			n *= 3
			want[name(at+1)] = n
		}
		wantMade(t, s, given(t, s, api.FromFile), l, want)
		slices.Reverse(l)
		wantMade(t, s, given(t, s, api.FromFile), l, want)
		// With another number at the beginning the 25th is beyond 2^62.
		wantRefused(t, s, given(t, s, api.FromFlag, name(0), "10000000"), l, api.ErrDeriveRange, name(25))
	}
}
