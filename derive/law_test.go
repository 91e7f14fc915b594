package derive_test

import (
	"slices"
	"strconv"
	"testing"

	"tinderbox/api"
	"tinderbox/derive"
	"tinderbox/env"
	"tinderbox/flag"
	"tinderbox/key"
	"tinderbox/layer"
)

// D5, P2, P5

var (
	wideNames    = []string{"a", "a.b", "a.b.c", "ab", "size", "span"}
	numericNames = append([]string{longName, "below", "one", "size.few", "span.few"}, wideNames...)
	wordsNames   = []string{"w", "w.none"}
	wrongNames   = []string{"none", "text", "no", "w", "a"}
)

// fill puts something into each of the own settings, from any origin; mostly from none that gives.
func (x *numbers) fill(t *testing.T, s *layer.Settings) {
	t.Helper()
	for _, one := range s.All() {
		from := pick(x, []int{0, 0, 0, 5, 5, 1, 2, 3, 4})
		switch one.Value.Kind {
		case api.Int, api.Size, api.Span:
			v := one.Value
			v.Int = pick(x, []int{x.next() % 100, x.next() % 10, -x.next() % 10, x.next(), pick(x, manyNumbers)})
			if s.Put(one.Name, v, from) != api.OK {
				// It lies out of its bounds.
				put(t, s, one.Name, one.Value, from)
			}
		case api.Words:
			putWords(t, s, one.Name, x.next()%17, from)
		}
	}
}

// ownRules are some of own settings, in any order, mostly without rings; if all is to be right, without rings, wrong names and narrow bounds.
func (x *numbers) ownRules(right bool) []api.Rule {
	targets := slices.Clone(numericNames)
	if right || x.next()%2 == 0 {
		targets = slices.Clone(wideNames)
	}
	var l []api.Rule
	row := x.row(len(targets))
	for i, at := range row[:x.next()%(len(row)+1)] {
		r := api.Rule{Target: targets[at], Op: 1 + x.next()%6, Add: pick(x, []int{1, 1, 2, 3, x.next()%100 + 1, x.next()})}
		count := 1 + x.next()%4
		if r.Op == api.OpShare {
			count = 1
		}
		for range count {
			// What stands ahead of it in the row, or is no Target here.
			need := targets[row[x.next()%(i+1)]]
			switch {
			case r.Op == api.OpCount:
				need = pick(x, wordsNames)
			case need == r.Target || x.next()%3 == 0:
				need = pick(x, []string{"one", "below", "span.few"})
			}
			if !right && x.next()%60 == 0 {
				need = pick(x, wrongNames)
			}
			r.Needs = append(r.Needs, need)
		}
		if !right && x.next()%60 == 0 {
			r.Target = pick(x, wrongNames)
		}
		if !right && len(l) > 0 && x.next()%60 == 0 {
			r.Target = pick(x, l).Target
		}
		if !right && x.next()%150 == 0 {
			r.Add = 1<<31 + 1
		}
		l = append(l, r)
	}
	return x.shuffled(l)
}

// Whatever settings hold and rules ask for, Run answers what the chapter says; and all that it may answer comes up.
func TestRandomRuns(t *testing.T) {
	r, s := numbers(9), ownSet()
	told := map[api.Errno]int{}
	for n := range 6000 {
		x := own(t)
		r.fill(t, x)
		e, _ := checkRun(t, s, x, r.ownRules(n%3 == 0))
		told[e]++
	}
	for _, e := range []api.Errno{api.OK, api.ErrDeriveForm, api.ErrDeriveName, api.ErrDeriveTwice, api.ErrDeriveLoop, api.ErrDeriveRange} {
		if told[e] < 50 {
			t.Errorf("%d was told %d times: %v", e, told[e], told)
		}
	}
}

// all are all orders of rules.
func all(l []api.Rule) [][]api.Rule {
	if len(l) == 0 {
		return [][]api.Rule{nil}
	}
	var found [][]api.Rule
	for _, rest := range all(l[1:]) {
		for at := range len(rest) + 1 {
			found = append(found, slices.Insert(slices.Clone(rest), at, l[0]))
		}
	}
	return found
}

// wantTheSame: rules in another order make the same of settings, or are refused with the same.
func wantTheSame(t *testing.T, s *key.Set, x *layer.Settings, l, other []api.Rule) {
	t.Helper()
	one, two := x.Copy(), x.Copy()
	e, name := derive.Run(one, l)
	otherE, otherName := checkRun(t, s, two, other)
	if otherE != e || otherName != name || !allAlike(one.All(), two.All()) {
		t.Errorf("Run of %+v: %d, %q; of %+v: %d, %q; %+v, %+v", l, e, name, other, otherE, otherName, one.All(), two.All())
	}
	order, _ := derive.Order(l)
	otherOrder, _ := derive.Order(other)
	if !slices.Equal(targetsIn(l, order), targetsIn(other, otherOrder)) {
		t.Errorf("Order of %+v: %v; of %+v: %v", l, order, other, otherOrder)
	}
}

func TestAllOrdersOfFewRules(t *testing.T) {
	s := ownSet()
	for _, l := range [][]api.Rule{
		sums("a a.b", "a.b ab", "ab size", "size span", "span one"),
		sums("a one", "a.b one", "ab one", "size one", "span one"),
		sums("span a", "size a", "ab a", "a.b a", "a one"),
		sums("a a.b", "a.b a", "ab one", "size a", "span none"),
		sums("a none", "a.b text", "no ab", "ab size", "size one"),
		sums("one a", "below a", "size.few one", "span.few below", "a one"),
		sums("a one", "a one", "ab a", "size ab", "size ab"),
		append(sums("a a", "ab size", "ab size", "text none"), api.Rule{}),
	} {
		for _, other := range all(l) {
			wantTheSame(t, s, own(t), l, other)
		}
	}
}

func TestTheOrderOfRulesDoesNotMatter(t *testing.T) {
	r, s := numbers(10), ownSet()
	for n := range 600 {
		x := own(t)
		r.fill(t, x)
		l := r.ownRules(n%2 == 0)
		for range 4 {
			wantTheSame(t, s, x, l, r.shuffled(l))
		}
	}
	// As many as there may be, and one more.
	wide := key.New()
	for n := range 33 {
		wide.Add(api.Key{Name: numbered(n), Kind: api.Int, Default: strconv.Itoa(n), Most: most62})
	}
	wide.Add(api.Key{Name: "x", Kind: api.Int, Default: "1", Most: 9})
	for range 400 {
		l := r.rules()
		wantTheSame(t, wide, given(t, wide, api.FromFile, numbered(r.next()%33), "5"), l, r.shuffled(l))
	}
}

// Run again changes nothing, as often as one likes.
func TestRunAgain(t *testing.T) {
	r, s := numbers(11), ownSet()
	came := 0
	for n := range 1500 {
		x := own(t)
		r.fill(t, x)
		l := r.ownRules(n%5 > 0)
		e, name := checkRun(t, s, x, l)
		behind := x.All()
		for range 2 {
			if againE, againName := checkRun(t, s, x, r.shuffled(l)); againE != e || againName != name || !allAlike(x.All(), behind) {
				t.Errorf("Run of %+v: %d, %q; again: %d, %q; %+v, %+v", l, e, name, againE, againName, behind, x.All())
			}
		}
		if e == api.OK && len(l) > 0 {
			came++
		}
	}
	if came < 500 {
		t.Errorf("%d came through", came)
	}
}

// What no rule has as its Target, and what somebody gave, stays as it is.
func TestWhatRulesDoNotMove(t *testing.T) {
	r, s := numbers(12), ownSet()
	stayed, moved := 0, 0
	for range 1500 {
		x := own(t)
		r.fill(t, x)
		before, l := x.All(), r.ownRules(true)
		if e, _ := checkRun(t, s, x, l); e != api.OK {
			continue
		}
		for i, one := range x.All() {
			is := slices.ContainsFunc(l, func(r api.Rule) bool { return r.Target == one.Name })
			switch was := before[i]; {
			case is && (was.From == api.FromDefault || was.From == api.FromRule):
				if one.From != api.FromRule {
					t.Errorf("%+v was %+v", one, was)
				}
				moved++
			case !alike(one, was):
				t.Errorf("%+v was %+v, and no rule makes it", one, was)
			default:
				stayed++
			}
		}
	}
	if stayed < 1000 || moved < 1000 {
		t.Errorf("%d stayed, %d were made", stayed, moved)
	}
}

// leadsTo are all that rules make a setting of, near and far.
func leadsTo(l []api.Rule, name string) []string {
	found := []string{name}
	for at := 0; at < len(found); at++ {
		for _, r := range l {
			if r.Target == found[at] {
				found = append(found, r.Needs...)
			}
		}
	}
	return found
}

// What a rule does not need, near or far, bears upon nothing that it makes: neither other settings nor other rules.
func TestWhatARuleDoesNotNeed(t *testing.T) {
	r, s := numbers(13), ownSet()
	held := 0
	for range 400 {
		x := own(t)
		r.fill(t, x)
		l := r.ownRules(true)
		first := x.Copy()
		if e, _ := derive.Run(first, l); e != api.OK {
			continue
		}
		other := own(t)
		r.fill(t, other)
		for _, one := range l {
			leads := leadsTo(l, one.Target)
			y, fewer := x.Copy(), []api.Rule{}
			for _, setting := range other.All() {
				if !slices.Contains(leads, setting.Name) {
					put(t, y, setting.Name, setting.Value, setting.From)
				}
			}
			for _, its := range l {
				if slices.Contains(leads, its.Target) || r.next()%2 == 0 {
					fewer = append(fewer, its)
				}
			}
			if e, _ := checkRun(t, s, y, fewer); e != api.OK {
				continue
			}
			want, _ := first.Get(one.Target)
			if got, _ := y.Get(one.Target); !alike(got, want) {
				t.Errorf("%+v; with others %+v", want, got)
			}
			held++
		}
	}
	if held < 200 {
		t.Errorf("%d were held against one another", held)
	}
}

// The order in which definitions were added does not matter, nor which others there are.
func TestTheOrderOfDefinitionsDoesNotMatter(t *testing.T) {
	r, keys := numbers(14), key.Standard().All()
	var want []api.Setting
	for range 20 {
		s := key.New()
		for _, at := range r.row(len(keys)) {
			s.Add(keys[at])
		}
		x := given(t, s, api.FromFile, "boot.services", "a,b,c,d", "store.cache", "1m")
		wantMade(t, s, x, r.shuffled(derive.Standard()), map[string]int{"boot.workers": 5, "boot.limit": 80, "store.page": 1024})
		if want != nil && !allAlike(x.All(), want) {
			t.Errorf("%+v; not %+v", x.All(), want)
		}
		want = x.All()
	}
	// Those alone that rules name.
	few := key.New()
	for _, k := range keys {
		if k.Name == "boot.workers" || k.Name == "boot.services" || k.Name == "boot.limit" {
			few.Add(k)
		}
	}
	wantMade(t, few, given(t, few, api.FromEnv), derive.Standard()[:2], map[string]int{"boot.workers": 3, "boot.limit": 48})
}

// P5: what rules make hangs on the settings that are given, by the highest origin; what they made once does not count as given.
func TestRulesOfSettingsThatOriginsGive(t *testing.T) {
	s := key.Standard()
	told, _, _ := env.Parse(s, []string{"BOOT_SERVICES=a,b,c", "STORE_CACHE=2m"})
	args, _, _ := flag.Parse(s, []string{"-s", "a", "--boot.limit=7"})
	file := []api.Given{{Name: "boot.workers", Text: "9"}}
	merged := func(l ...[]api.Given) *layer.Settings {
		x, _, _, _ := layer.Merge(s, l, []int{api.FromFile, api.FromEnv, api.FromFlag}[:len(l)])
		return x
	}
	wantMade(t, s, merged(), derive.Standard(), map[string]int{"boot.workers": 3, "boot.limit": 48, "store.page": 4096})
	x := merged(file)
	wantMade(t, s, x, derive.Standard(), map[string]int{"boot.limit": 144, "store.page": 4096})
	wantHeld(t, x, "boot.workers", 9, api.FromFile)
	wantMade(t, s, merged(nil, told), derive.Standard(), map[string]int{"boot.workers": 4, "boot.limit": 64, "store.page": 2048})
	x = merged(nil, told, args.Given)
	wantMade(t, s, x, derive.Standard(), map[string]int{"boot.workers": 2, "store.page": 2048})
	wantHeld(t, x, "boot.limit", 7, api.FromFlag)

	// Put behind it, and run again: they are made anew of what is there then.
	putWords(t, x, "boot.services", 10, api.FromRule)
	putNumber(t, x, "boot.limit", 8, api.FromDefault)
	wantMade(t, s, x, derive.Standard(), map[string]int{"boot.workers": 11, "boot.limit": 176, "store.page": 2048})
	putNumber(t, x, "boot.workers", 1, api.FromStore)
	wantMade(t, s, x, derive.Standard(), map[string]int{"boot.limit": 16, "store.page": 2048})
	wantHeld(t, x, "boot.workers", 1, api.FromStore)
}
