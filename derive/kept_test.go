package derive_test

import (
	"runtime"
	"slices"
	"strings"
	"sync"
	"testing"
	"unsafe"
	"weak"

	"tinderbox/api"
	"tinderbox/derive"
	"tinderbox/key"
	"tinderbox/layer"
)

// R2, R3

// What is asked ahead of main is answered as at every other time.
var (
	earlyRight, earlyWrong          = derive.Right(standardByTable()[0]), derive.Right(api.Rule{})
	earlyOrder, earlyOrderErrno     = derive.Order(standardByTable())
	earlyNone, earlyLoop            = derive.Order([]api.Rule{{Target: "a", Needs: []string{"a"}, Op: api.OpSum}})
	early, _, _, _                  = layer.Merge(key.Standard(), nil, nil)
	earlyErrno, earlyName           = derive.Run(early, standardByTable())
	earlyAll                        = early.All()
	earlyNilErrno, earlyNilName     = derive.Run(nil, standardByTable())
	earlyRangeErrno, earlyRangeName = derive.Run(early, []api.Rule{{Target: "net.port", Needs: []string{"log.level"}, Op: api.OpTimes}})
)

func TestCallsAheadOfMain(t *testing.T) {
	if !earlyRight || earlyWrong {
		t.Errorf("Right at start-up: %t, %t", earlyRight, earlyWrong)
	}
	if !slices.Equal(earlyOrder, []int{1, 0, 2}) || earlyOrderErrno != api.OK || len(earlyNone) != 0 || earlyLoop != api.ErrDeriveLoop {
		t.Errorf("Order at start-up: %v, %d; %v, %d", earlyOrder, earlyOrderErrno, earlyNone, earlyLoop)
	}
	x := given(t, key.Standard(), api.FromFile)
	wantMade(t, key.Standard(), x, derive.Standard(), nil)
	if !allAlike(earlyAll, x.All()) || earlyErrno != api.OK || earlyName != "" {
		t.Errorf("Run at start-up: %+v, %d, %q", earlyAll, earlyErrno, earlyName)
	}
	if earlyNilErrno != api.ErrDeriveName || earlyNilName != "boot.workers" || earlyRangeErrno != api.ErrDeriveRange || earlyRangeName != "net.port" || !allAlike(early.All(), earlyAll) {
		t.Errorf("refused at start-up: %d, %q; %d, %q", earlyNilErrno, earlyNilName, earlyRangeErrno, earlyRangeName)
	}
}

// spoil writes into a list, and into its spare room.
func spoil[E any](list []E, with E) {
	list = list[:cap(list)]
	for i := range list {
		list[i] = with
	}
}

func TestOrdersAreNewMemory(t *testing.T) {
	x := numbers(15)
	for range 50 {
		l := x.rules()
		one, _ := derive.Order(l)
		two, _ := derive.Order(l)
		spoil(one, -77)
		if want, _ := orderByWords(l); !slices.Equal(two, want) {
			t.Errorf("another answer was written into: %v", two)
		}
		spoil(two, -77)
		checkOrder(t, l)
	}
}

// roomy are rules that have spare room, and whose needs have some too, with something in it.
func roomy(l []api.Rule) []api.Rule {
	all := make([]api.Rule, 0, len(l)+40)
	for _, r := range l {
		needs := slices.Repeat([]string{"kept"}, len(r.Needs)+9)
		r.Needs = needs[:copy(needs, r.Needs)]
		all = append(all, r)
	}
	rest := all[len(all):cap(all)]
	for i := range rest {
		rest[i] = rule("kept", api.OpSum, "kept kept", 5)
	}
	return all
}

// Neither lists that are handed in nor their spare room are written into.
func TestSpareRoomStays(t *testing.T) {
	x, s := numbers(16), ownSet()
	for n := range 300 {
		l := roomy(x.ownRules(n%2 == 0))
		if n%10 == 0 {
			l = roomy(x.rules())
		}
		was := rulesCloned(l[:cap(l)])
		checkOrder(t, l)
		y := own(t)
		x.fill(t, y)
		checkRun(t, s, y, l)
		for _, r := range l {
			checkRight(t, r)
		}
		if !sameRules(l[:cap(l)], was) {
			t.Errorf("%+v was %+v", l[:cap(l)], was)
		}
		for _, r := range l {
			if rest := r.Needs[len(r.Needs):cap(r.Needs)]; !slices.Equal(rest, slices.Repeat([]string{"kept"}, 9)) {
				t.Errorf("spare room was written into: %q", rest)
			}
		}
	}
}

// What is written into lists behind the call bears upon nothing.
func TestListsThatAreHandedInAreNotLookedAtAgain(t *testing.T) {
	s, x := ownSet(), own(t)
	l := rules(rule("a", api.OpSum, "a.b ab", 1), rule("a.b", api.OpCount, "w w.none", 2), rule("size", api.OpShare, "a", 2))
	order, _ := derive.Order(l)
	wantMade(t, s, x, l, map[string]int{"a": 10, "a.b": 5, "size": 5})
	behind := x.All()
	spoilRules(l)
	if !allAlike(x.All(), behind) || !slices.Equal(order, []int{1, 0, 2}) {
		t.Errorf("%+v, which was %+v; %v", x.All(), behind, order)
	}
	spoil(order, -77)
	spoil(behind, api.Setting{Name: "spoilt"})
	wantMade(t, s, x, sums("a.b one"), map[string]int{"a": 10, "a.b": 5, "size": 5})
}

// inside: does a text stand in the memory of another one?
func inside(s, all string) bool {
	if s == "" || all == "" {
		return false
	}
	at, begin := uintptr(unsafe.Pointer(unsafe.StringData(s))), uintptr(unsafe.Pointer(unsafe.StringData(all)))
	return at >= begin && at < begin+uintptr(len(all))
}

// Neither a name that is told nor one that settings hold is a piece of what was handed in.
func TestTextsThatAreHandedInAreNotKept(t *testing.T) {
	text := strings.Repeat("one below size none ", 50)
	one, below, size, none := text[:3], text[4:9], text[10:14], text[15:19]
	for want, l := range map[api.Errno][]api.Rule{
		api.ErrDeriveName:  {{Target: none, Needs: []string{size}, Op: api.OpSum}},
		api.ErrDeriveRange: {{Target: below, Needs: []string{size}, Op: api.OpSum}},
		api.OK:             {{Target: size, Needs: []string{one}, Op: api.OpSum}},
	} {
		x := own(t)
		e, name := derive.Run(x, l)
		if e != want || inside(name, text) {
			t.Errorf("Run of %+v: %d, %q; a piece of what was handed in: %t", l, e, name, inside(name, text))
		}
		for _, setting := range x.All() {
			if inside(setting.Name, text) {
				t.Errorf("%q is a piece of what was handed in", setting.Name)
			}
		}
		if e, name := derive.Run(nil, l); e != api.ErrDeriveName || inside(name, text) {
			t.Errorf("Run of %+v on nil: %d, %q", l, e, name)
		}
	}
}

// asked are what calls told of lists that nobody has any more, and where these were.
//
//go:noinline
func asked(x *layer.Settings, last api.Rule) ([]int, string, weak.Pointer[api.Rule], weak.Pointer[string]) {
	l := append(rules(rule("a", api.OpSum, "a.b ab one", 1), rule("a.b", api.OpSum, "ab one", 2)), last)
	order, _ := derive.Order(l)
	derive.Right(l[0])
	_, name := derive.Run(x, l)
	return order, name, weak.Make(&l[0]), weak.Make(&l[0].Needs[0])
}

func TestListsThatAreHandedInAreNotKept(t *testing.T) {
	for _, last := range []api.Rule{rule("size", api.OpSum, "span", 0), rule("below", api.OpSum, "span", 0), rule("text", api.OpSum, "span", 0), rule("a", api.OpSum, "span", 0), {}} {
		x := own(t)
		order, name, l, needs := asked(x, last)
		for range 3 {
			runtime.GC()
		}
		if l.Value() != nil || needs.Value() != nil {
			t.Errorf("lists with %+v are kept", last)
		}
		runtime.KeepAlive(order)
		runtime.KeepAlive(name)
		runtime.KeepAlive(x)
	}
}

// Copies, what others were assigned, and lists that came out ahead stay as they were; and what a copy becomes bears upon nothing.
func TestCopiesAndAnswersStay(t *testing.T) {
	s := key.Standard()
	x := given(t, s, api.FromFile)
	before := x.All()
	copied, assigned, all := x.Copy(), *x, x.All()
	one, _ := x.Get("boot.limit")
	wantMade(t, s, x, derive.Standard(), nil)
	if !allAlike(copied.All(), before) || !allAlike(assigned.All(), before) || !allAlike(all, before) || one.Value.Int != 0 {
		t.Errorf("they were changed: %+v; %+v; %+v; %+v", copied.All(), assigned.All(), all, one)
	}
	made := x.All()
	putNumber(t, copied, "boot.workers", 5, api.FromFlag)
	wantMade(t, s, copied, derive.Standard(), map[string]int{"boot.limit": 80})
	if !allAlike(x.All(), made) || !allAlike(assigned.All(), before) {
		t.Errorf("a copy's rules changed them: %+v; %+v", x.All(), assigned.All())
	}
	wantMade(t, s, &assigned, derive.Standard(), nil)
	if !allAlike(assigned.All(), made) {
		t.Errorf("%+v; not %+v", assigned.All(), made)
	}
}

// Calls on things that have no part in common do not disturb one another, nor do calls that ask alone.
func TestCallsDoNotDisturbOneAnother(t *testing.T) {
	s := key.Standard()
	shared, l := given(t, s, api.FromEnv, "boot.services", "a,b,c,d"), derive.Standard()
	before := shared.All()
	var group sync.WaitGroup
	for worker := range 8 {
		group.Go(func() {
			callAll(t, 50+worker)
			for range 40 {
				wantMade(t, s, shared.Copy(), l, map[string]int{"boot.workers": 5, "boot.limit": 80, "store.page": 4096})
				wantOrder(t, l, "boot.workers boot.limit store.page")
			}
		})
	}
	group.Wait()
	wantStandard(t, l)
	if !allAlike(shared.All(), before) {
		t.Errorf("a copy's rules changed what it is of: %+v", shared.All())
	}
}
