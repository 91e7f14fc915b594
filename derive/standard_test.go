package derive_test

import (
	"strings"
	"sync"
	"testing"

	"tinderbox/api"
	"tinderbox/derive"
	"tinderbox/key"
)

// D4, P1

// What stood ahead of main.
var earlyRules = derive.Standard()

// standardByTable is the chapter's table.
func standardByTable() []api.Rule {
	return []api.Rule{
		{Target: "boot.limit", Op: 4, Needs: []string{"boot.workers"}, Add: 16},
		{Target: "boot.workers", Op: 6, Needs: []string{"boot.services"}, Add: 1},
		{Target: "store.page", Op: 5, Needs: []string{"store.cache"}, Add: 1024},
	}
}

func wantStandard(t *testing.T, l []api.Rule) {
	t.Helper()
	if !sameRules(l, standardByTable()) {
		t.Errorf("the standard rules: %+v", l)
	}
}

func TestStandardIsTheTable(t *testing.T) {
	wantStandard(t, derive.Standard())
	for _, r := range derive.Standard() {
		wantRight(t, true, r)
	}
	wantOrder(t, derive.Standard(), "boot.workers boot.limit store.page")
	x := numbers(8)
	for range 20 {
		wantOrder(t, x.shuffled(derive.Standard()), "boot.workers boot.limit store.page")
	}
}

func TestStandardAtStartUp(t *testing.T) {
	wantStandard(t, earlyRules)
}

// spoilRules writes into a list of rules, those within, and their spare room.
func spoilRules(l []api.Rule) {
	l = l[:cap(l)]
	for i := range l {
		spoil(l[i].Needs, "spoilt")
		l[i] = api.Rule{Target: "spoilt", Needs: []string{"spoilt"}, Op: api.OpMost, Add: -77}
	}
}

// Whatever becomes of an answer, the next one, and one ahead of it, are the table.
func TestStandardIsNewMemory(t *testing.T) {
	kept := derive.Standard()
	for range 3 {
		l := derive.Standard()
		l[0].Needs = append(l[0].Needs, "more")
		l = append(l, rule("more", api.OpSum, "a", 0))
		spoilRules(l[:3])
		spoilRules(derive.Standard())
		wantStandard(t, kept)
		wantStandard(t, derive.Standard())
	}
	// No two lists of one answer share any memory.
	for spoilt := range 3 {
		l := derive.Standard()
		spoil(l[spoilt].Needs, "spoilt")
		l[spoilt].Needs = standardByTable()[spoilt].Needs
		wantStandard(t, l)
	}
	wantStandard(t, kept)
}

// callAll makes calls of all kinds, those that are refused too.
func callAll(t *testing.T, seed int) {
	t.Helper()
	r := numbers(seed)
	x := given(t, key.Standard(), api.FromFile)
	for range 40 {
		checkRun(t, key.Standard(), x, derive.Standard())
		for _, l := range refusedByOrder() {
			checkRun(t, key.Standard(), x, l)
		}
		checkRun(t, key.Standard(), x, r.shuffled(append(derive.Standard(), rule("log.keep", r.next()%7, "net.port", r.next()%9))))
		checkOrder(t, r.rules())
		checkRight(t, r.wrongRule())
		putNumber(t, x, "store.cache", r.next()%(1<<27), r.next()%6)
		y := own(t)
		r.fill(t, y)
		checkRun(t, ownSet(), y, r.ownRules(false))
		spoilRules(derive.Standard())
		spoilRules(standardByTable())
	}
}

func TestStandardIsTheSameAtEveryTime(t *testing.T) {
	before := derive.Standard()
	var group sync.WaitGroup
	for seed := range 8 {
		group.Go(func() {
			callAll(t, seed)
			wantStandard(t, derive.Standard())
		})
	}
	group.Wait()
	wantStandard(t, before)
	wantStandard(t, derive.Standard())
}

// The standard rules fit the standard definitions: without anything given they are taken, and make what the chapter says.
func TestStandardRulesOfStandardSettings(t *testing.T) {
	s := key.Standard()
	for _, r := range derive.Standard() {
		for _, name := range append([]string{r.Target}, r.Needs...) {
			if _, there := s.Find(name); !there {
				t.Errorf("no definition of %s", name)
			}
		}
	}
	x := given(t, s, api.FromFile)
	before := x.All()
	wantMade(t, s, x, derive.Standard(), map[string]int{"boot.workers": 3, "boot.limit": 48, "store.page": 4096})
	for i, one := range x.All() {
		if made := strings.Contains("boot.workers boot.limit store.page", one.Name); !made && !alike(one, before[i]) {
			t.Errorf("%+v; not %+v", one, before[i])
		}
	}
}
