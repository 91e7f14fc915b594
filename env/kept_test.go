package env_test

import (
	"slices"
	"strings"
	"sync"
	"testing"
	"unsafe"

	"tinderbox/api"
	"tinderbox/env"
	"tinderbox/key"
)

// R2, R3

// What is asked ahead of main is answered as at every other time.
var (
	earlyName, earlyNamed       = env.Name("a1.b.c2")
	earlyNone, earlyRefused     = env.Name("Net")
	earlyTold, earlyErrno, _    = env.Parse(key.Standard(), words("HOME=/root NET_PORT=9001 PORT=1 NET_PORT="))
	earlyNothing, earlyWrong, _ = env.Parse(key.Standard(), words("NET_PORT=1 NET_PORTS=1"))
)

func TestCallsAheadOfMain(t *testing.T) {
	if earlyName != "A1_B_C2" || earlyNamed != api.OK || earlyNone != "" || earlyRefused != api.ErrArg {
		t.Errorf("Name at start-up: %q, %d; %q, %d", earlyName, earlyNamed, earlyNone, earlyRefused)
	}
	if want := []api.Given{given("net.port", "9001", 1), given("net.port", "", 3)}; !slices.Equal(earlyTold, want) || earlyErrno != api.OK {
		t.Errorf("Parse at start-up: %+v, %d", earlyTold, earlyErrno)
	}
	if len(earlyNothing) != 0 || earlyWrong != api.ErrEnvName {
		t.Errorf("Parse of wrong pairs at start-up: %+v, %d", earlyNothing, earlyWrong)
	}
}

func TestListsThatAreHandedInAreNotWrittenInto(t *testing.T) {
	s := key.Standard()
	pairs := []string{"NET_PORT=1", "A=1", "NET_PORT=", "net_port=1", "BOOT_DRY==", "NET_X=1", "room", "", "NET_PORT=room"}
	before := slices.Clone(pairs)
	for from := range pairs {
		for to := from; to <= len(pairs); to++ {
			for _, list := range [][]string{pairs[from:to], pairs[from:to:to]} {
				env.Parse(s, list)
				env.Parse(nil, list)
				if !slices.Equal(pairs, before) {
					t.Fatalf("Parse wrote into its list: %q", pairs)
				}
			}
		}
	}
	if !slices.Equal(s.All(), key.Standard().All()) {
		t.Errorf("the set was written into: %+v", s.All())
	}
}

// spoil writes into a list, and into its spare room.
func spoil[E any](list []E, with E) {
	list = list[:cap(list)]
	for i := range list {
		list[i] = with
	}
}

func TestListsThatComeOutAreNewMemory(t *testing.T) {
	s := key.Standard()
	var pairs []string
	for range 40 {
		pairs = append(pairs, "A=1", "NET_PORT=1", "NET_URL=", "LOG_LEVEL==")
		one, _, _ := env.Parse(s, pairs)
		two, _, _ := env.Parse(s, pairs)
		want, _, _ := definitions(s.All()).parsed(pairs)
		spoil(one, given("spoilt", "spoilt", -1))
		if !slices.Equal(two, want) {
			t.Errorf("another answer was written into: %+v", two)
		}
		spoil(two, given("spoilt", "spoilt", -1))
		wantGiven(t, s, pairs, want...)
	}
	wantGiven(t, s, pairs[:0])
	if !slices.Equal(s.All(), key.Standard().All()) {
		t.Errorf("the set was written into: %+v", s.All())
	}
}

// What came out stays as it was, whatever becomes of what was handed in; and what a set has is looked up anew each time.
func TestListsAndSetsThatAreHandedInAreNotKept(t *testing.T) {
	s := textsOf("net.port")
	pairs := words("NET_PORT=1 A=1 NET_PORT=2")
	told, _, _ := env.Parse(s, pairs)
	spoil(pairs, "spoilt=1")
	if want := []api.Given{given("net.port", "1", 0), given("net.port", "2", 2)}; !slices.Equal(told, want) {
		t.Errorf("what was told hangs on the list: %+v", told)
	}
	wantGiven(t, s, pairs)
	wantWrong(t, s, words("NET_X=1"), api.ErrEnvName, 0)
	wantGiven(t, s, words("X_Y=1"))
	s.Add(api.Key{Name: "net.x", Kind: api.Text})
	s.Add(api.Key{Name: "x", Kind: api.Text})
	wantGiven(t, s, words("NET_X=1 X=1"), given("net.x", "1", 0), given("x", "1", 1))
	wantWrong(t, s, words("X_Y=1"), api.ErrEnvName, 0)
	wantGiven(t, key.New(), words("NET_X=1 X_Y=1"))
}

// inside: does a text stand in the memory of another one?
func inside(s, all string) bool {
	if s == "" || all == "" {
		return false
	}
	at, begin := uintptr(unsafe.Pointer(unsafe.StringData(s))), uintptr(unsafe.Pointer(unsafe.StringData(all)))
	return at >= begin && at < begin+uintptr(len(all))
}

func TestTextsThatAreHandedInAreNotKept(t *testing.T) {
	s := key.Standard()
	text := strings.Repeat("x", 1000)
	pairs := []string{"NET_URL=" + text, "NET_HOST==" + text, "NET_PORT=1"}
	told, e, _ := checkParse(t, s, pairs)
	if len(told) != 3 || e != api.OK {
		t.Fatalf("Parse: %+v, %d", told, e)
	}
	for i, g := range told {
		if k, _ := s.Find(g.Name); inside(g.Text, pairs[i]) || inside(g.Name, pairs[i]) || inside(g.Name, k.Name) {
			t.Errorf("what is told of pair %d has pieces of what was handed in", i)
		}
	}
	name := strings.Repeat("x", 1000) + "net.port"
	if called, _ := env.Name(name[1000:]); called != "NET_PORT" || inside(called, name) {
		t.Errorf("%q is a piece of what was handed in", called)
	}
}

// What one call answers does not hang on the calls ahead of it, nor on those beside it on the same set; wrong pairs leave nothing behind.
func TestCallsDoNotDisturbOneAnother(t *testing.T) {
	s, own := key.Standard(), ownSet()
	x := numbers(80)
	lists := [][]string{nil, {""}, words("NET_PORT=1 B"), words("NET_X=1"), words("D_E=1 DEBUG=1")}
	names := []string{"", "a", "a.", "Net", longName, longName + "x"}
	for range 20 {
		lists = append(lists, x.pairs(s, 8), x.pairs(own, 8))
		names = append(names, x.name("abc01"))
	}
	var group sync.WaitGroup
	for worker := range 8 {
		group.Go(func() {
			for i := range 200 {
				checkParse(t, s, lists[(i+worker)%len(lists)])
				checkParse(t, own, lists[(i*worker)%len(lists)])
				checkName(t, names[(i+worker)%len(names)])
			}
		})
	}
	group.Wait()
}
