package refs_test

import (
	"slices"
	"strconv"
	"strings"
	"sync"
	"testing"
	"unsafe"

	"tinderbox/api"
	"tinderbox/key"
	"tinderbox/layer"
	"tinderbox/refs"
)

// R2, R3

// What is asked ahead of main is answered as at every other time.
var (
	earlyNames, earlyNamed      = refs.Names("${b}$$${a}${b}")
	earlyNone, earlyRefused     = refs.Names("${b}$")
	early, _, _, _              = layer.Merge(key.Standard(), nil, nil)
	earlyErrno, earlyName       = refs.Expand(early)
	earlyAll                    = early.All()
	earlyLoop, _, _, _          = layer.Merge(key.Standard(), [][]api.Given{{{Name: "net.host", Text: "${net.url}"}}}, []int{1})
	earlyWrong, earlyWrongOne   = refs.Expand(earlyLoop)
	earlyNilErrno, earlyNilName = refs.Expand(nil)
)

func TestCallsAheadOfMain(t *testing.T) {
	if !slices.Equal(earlyNames, []string{"b", "a"}) || earlyNamed != api.OK || len(earlyNone) != 0 || earlyRefused != api.ErrRefsForm {
		t.Errorf("Names at start-up: %q, %d; %q, %d", earlyNames, earlyNamed, earlyNone, earlyRefused)
	}
	x := standardWith(t, nil)
	wantTexts(t, x, texts{"net.url": "http://localhost:8080"})
	if !allAlike(earlyAll, x.All()) || earlyErrno != api.OK || earlyName != "" {
		t.Errorf("Expand at start-up: %+v, %d, %q", earlyAll, earlyErrno, earlyName)
	}
	if earlyWrong != api.ErrRefsLoop || earlyWrongOne != "net.host" || earlyNilErrno != api.ErrArg || earlyNilName != "" {
		t.Errorf("Expand of wrong ones at start-up: %d, %q; %d, %q", earlyWrong, earlyWrongOne, earlyNilErrno, earlyNilName)
	}
}

// spoil writes into a list, and into its spare room.
func spoil[E any](list []E, with E) {
	list = list[:cap(list)]
	for i := range list {
		list[i] = with
	}
}

func TestListsThatComeOutAreNewMemory(t *testing.T) {
	s := ""
	for n := range 40 {
		s += reference(numbered(n)) + "$$"
		one, _ := refs.Names(s)
		two, _ := refs.Names(s)
		spoil(one, "spoilt")
		if want, _ := namesByWords(s); !slices.Equal(two, want) {
			t.Errorf("another answer was written into: %q", two)
		}
		spoil(two, "spoilt")
		checkNames(t, s)
	}
	// No list of an error has room for anything of another one.
	none, _ := refs.Names(s + "$")
	spoil(none, "spoilt")
	checkNames(t, s)
}

// inside: does a text stand in the memory of another one?
func inside(s, all string) bool {
	if s == "" || all == "" {
		return false
	}
	at, begin := uintptr(unsafe.Pointer(unsafe.StringData(s))), uintptr(unsafe.Pointer(unsafe.StringData(all)))
	return at >= begin && at < begin+uintptr(len(all))
}

func TestTextsThatAreHandedInAreNotKept(t *testing.T) {
	s := strings.Repeat("x", 1000) + "${net.host}$$${a}${net.host}"
	names, _ := checkNames(t, s)
	if len(names) != 2 || slices.ContainsFunc(names, func(name string) bool { return inside(name, s) }) {
		t.Errorf("%q has pieces of what was handed in", names)
	}
	x := standardWith(t, texts{"net.host": "${none}"})
	if _, name := refs.Expand(x); name != "net.host" || slices.ContainsFunc(x.All(), func(one api.Setting) bool { return inside(name, one.Name) }) {
		t.Errorf("%q is a piece of what was handed in", name)
	}
}

// Copies, what others were assigned, and lists that came out ahead stay as they were; and what a copy becomes bears upon nothing.
func TestCopiesAndAnswersStay(t *testing.T) {
	given := texts{"net.host": "$$${store.dir}", "log.file": "${net.peers}${boot.services}"}
	x, before := standardWith(t, given), standardWith(t, given).All()
	copied, assigned := x.Copy(), *x
	all := x.All()
	one, _ := x.Get("net.url")
	wantTexts(t, x, texts{"net.url": "http://$/var/tinder:8080"})
	if !allAlike(copied.All(), before) || !allAlike(assigned.All(), before) || !allAlike(all, before) || one.Value.Text != "http://${net.host}:${net.port}" {
		t.Errorf("they were changed: %+v; %+v; %+v; %+v", copied.All(), assigned.All(), all, one)
	}
	expanded := x.All()
	put(t, copied, "store.dir", text("/d"), api.FromFlag)
	wantTexts(t, copied, texts{"net.host": "$/d", "net.url": "http://$/d:8080"})
	if !allAlike(x.All(), expanded) || !allAlike(assigned.All(), before) || !allAlike(all, before) {
		t.Errorf("a copy's expansion changed them: %+v; %+v; %+v", x.All(), assigned.All(), all)
	}
	spoil(all, api.Setting{Name: "spoilt"})
	wantTexts(t, &assigned, texts{"net.url": "http://$/var/tinder:8080"})
	if !allAlike(assigned.All(), expanded) {
		t.Errorf("%+v; not %+v", assigned.All(), expanded)
	}
}

// Settings may be put into behind Expand, and are read anew.
func TestExpandReadsSettingsAnew(t *testing.T) {
	x := standardWith(t, nil)
	wantTexts(t, x, nil)
	for n := range 20 {
		put(t, x, "net.port", api.Value{Kind: api.Int, Int: n + 1}, api.FromRule)
		put(t, x, "net.url", text("${net.port}"), api.FromFile)
		put(t, x, "net.host", text("${log.none}"), api.FromFile)
		wantWrong(t, x, api.ErrRefsName, "net.host")
		put(t, x, "net.host", text("h${net.url}"), api.FromFile)
		port := strconv.Itoa(n + 1)
		wantTexts(t, x, texts{"net.url": port, "net.host": "h" + port})
	}
}

// Calls on things that have no part in common do not disturb one another, nor do calls that ask alone; refused ones leave nothing behind.
func TestCallsDoNotDisturbOneAnother(t *testing.T) {
	shared := standardWith(t, texts{"net.host": "$$${store.dir}"})
	before := shared.All()
	var group sync.WaitGroup
	for worker := range 8 {
		group.Go(func() {
			r := numbers(100 + worker)
			x := merged(t, ownSet(), nil)
			for range 40 {
				y := shared.Copy()
				wantTexts(t, y, texts{"net.url": "http://$/var/tinder:8080"})
				r.fill(t, y, false)
				checkExpand(t, y)
				r.fill(t, x, worker%2 == 0)
				checkExpand(t, x)
				checkNames(t, r.text([]string{"a", "b.c"}, 9))
				refs.Names("${a}$")
			}
		})
	}
	group.Wait()
	if !allAlike(shared.All(), before) {
		t.Errorf("a copy's expansion changed what it is of: %+v", shared.All())
	}
}
