package flag_test

import (
	"slices"
	"strings"
	"sync"
	"testing"
	"unsafe"

	"tinderbox/api"
	"tinderbox/flag"
	"tinderbox/key"
)

// R2, R3

// What is asked ahead of main is answered as at every other time.
var (
	earlyTold, earlyErrno, _      = flag.Parse(key.Standard(), words("-p 9002 x --boot.dry -- -q"))
	earlyNone, earlyWrong, _      = flag.Parse(key.Standard(), words("x -p"))
	earlyPrinted, earlyPrint      = flag.Print(key.Standard(), []api.Given{{Name: "net.port", Text: "x"}})
	earlyRefused, earlyNotPrinted = flag.Print(key.Standard(), []api.Given{{Name: "x"}})
)

func TestCallsAheadOfMain(t *testing.T) {
	want := api.Args{Given: []api.Given{given("net.port", "9002", 0), given("boot.dry", "true", 3)}, Rest: words("x -q")}
	if !sameArgs(earlyTold, want) || earlyErrno != api.OK {
		t.Errorf("Parse at start-up: %+v, %d", earlyTold, earlyErrno)
	}
	if !sameArgs(earlyNone, api.Args{}) || earlyWrong != api.ErrFlagValue {
		t.Errorf("Parse of wrong arguments at start-up: %+v, %d", earlyNone, earlyWrong)
	}
	if !slices.Equal(earlyPrinted, words("--net.port=x")) || earlyPrint != api.OK || len(earlyRefused) != 0 || earlyNotPrinted != api.ErrArg {
		t.Errorf("Print at start-up: %q, %d; %q, %d", earlyPrinted, earlyPrint, earlyRefused, earlyNotPrinted)
	}
}

func TestListsThatAreHandedInAreNotWrittenInto(t *testing.T) {
	s := key.Standard()
	args := words("x -n -p 1 --net.url=x -nv3 --no-boot.dry --help - -- -q --x -p room -- room")
	beforeArgs := slices.Clone(args)
	for from := range args {
		for to := from; to <= len(args); to++ {
			for _, list := range [][]string{args[from:to], args[from:to:to]} {
				flag.Parse(s, list)
				flag.Parse(nil, list)
				if !slices.Equal(args, beforeArgs) {
					t.Fatalf("Parse wrote into its list: %q", args)
				}
			}
		}
	}
	l := []api.Given{given("net.port", "1", 9), given("boot.dry", "", 8), given("net.port", "a=b", 7), given("x", "room", 6), given("net.url", "", 5)}
	before := slices.Clone(l)
	for from := range l {
		for to := from; to <= len(l); to++ {
			for _, list := range [][]api.Given{l[from:to], l[from:to:to]} {
				flag.Print(s, list)
				flag.Print(nil, list)
				if !slices.Equal(l, before) {
					t.Fatalf("Print wrote into its list: %+v", l)
				}
			}
		}
	}
	standard := key.Standard().All()
	if !slices.Equal(s.All(), standard) {
		t.Errorf("the set was written into: %+v", s.All())
	}
}

// spoil writes into a list, and into its spare room.
func spoil[E any](list []E, with E) {
	list = list[:cap(list)]
	for i := range list {
		list[i] = with
	}
}

func spoilArgs(told api.Args) {
	spoil(told.Given, given("spoilt", "spoilt", -1))
	spoil(told.Rest, "spoilt")
}

func TestListsThatComeOutAreNewMemory(t *testing.T) {
	s := key.Standard()
	var args []string
	for range 40 {
		args = append(args, "x", "-p", "1", "-nv3", "--net.url=", "")
		one, _, _ := flag.Parse(s, args)
		two, _, _ := flag.Parse(s, args)
		want, _, _ := definitions(s.All()).parsed(args)
		spoilArgs(one)
		if !sameArgs(two, want) {
			t.Errorf("another answer was written into: %+v", two)
		}
		behind, _, _ := flag.Parse(s, append([]string{"--"}, args...))
		spoilArgs(behind)
		wantTold(t, s, args, want)
		printed, _ := flag.Print(s, two.Given)
		again, _ := flag.Print(s, two.Given)
		spoil(printed, "spoilt")
		if wantPrint, _ := definitions(s.All()).printed(want.Given); !slices.Equal(again, wantPrint) {
			t.Errorf("another answer was written into: %q", again)
		}
		if !sameArgs(two, want) {
			t.Errorf("what was printed was written into: %+v", two)
		}
		spoil(again, "spoilt")
		spoilArgs(two)
	}
	wantTold(t, s, args[:0], api.Args{})
	if !slices.Equal(s.All(), key.Standard().All()) {
		t.Errorf("the set was written into: %+v", s.All())
	}
}

// What came out stays as it was, whatever becomes of what was handed in.
func TestListsThatAreHandedInAreNotKept(t *testing.T) {
	s := key.Standard()
	args := words("x -p 1 -- --x y z")
	told, _, _ := flag.Parse(s, args)
	printed, _ := flag.Print(s, told.Given)
	want := api.Args{Given: []api.Given{given("net.port", "1", 1)}, Rest: words("x --x y z")}
	spoil(args, "spoilt")
	if !sameArgs(told, want) {
		t.Errorf("what was told hangs on the list: %+v", told)
	}
	s.Add(api.Key{Name: "a", Kind: api.Text})
	spoilArgs(told)
	if !slices.Equal(printed, words("--net.port=1")) {
		t.Errorf("what was printed hangs on the list: %q", printed)
	}
}

// inside: does a text stand in the memory of another one?
func inside(s, all string) bool {
	if s == "" || all == "" {
		return false
	}
	at, begin := uintptr(unsafe.Pointer(unsafe.StringData(s))), uintptr(unsafe.Pointer(unsafe.StringData(all)))
	return at >= begin && at < begin+uintptr(len(all))
}

func TestTextsThatAreHandedInAreNotKept(t *testing.T) {
	s := key.Standard()
	text := strings.Repeat("x", 1000)
	args := []string{text, "--net.url=" + text, "--net.host", text, "-p" + text, "-nd", text, "--boot.dry=" + text, "--", text, "-" + text}
	told, e, _ := checkParse(t, s, args)
	if len(told.Given) != 6 || len(told.Rest) != 3 || e != api.OK {
		t.Fatalf("Parse: %+v, %d", told, e)
	}
	outs := slices.Clone(told.Rest)
	for _, g := range told.Given {
		outs = append(outs, g.Name, g.Text)
	}
	printed, _ := flag.Print(s, []api.Given{given("net.url", text, 0), given("net.url", "", 0)})
	for _, out := range append(outs, printed...) {
		for _, arg := range args {
			if inside(out, arg) {
				t.Errorf("%.20q is a piece of what was handed in", out)
			}
		}
	}
}

// What one call answers does not hang on the calls ahead of it, nor on those beside it on the same set; wrong arguments leave nothing behind.
func TestCallsDoNotDisturbOneAnother(t *testing.T) {
	s, own := key.Standard(), ownSet()
	x := numbers(50)
	lists := [][]string{nil, words("-h"), words("-p"), words("-n --x"), words("x -- y"), words("-nnn -9")}
	for range 20 {
		lists = append(lists, x.args(s, 8), x.args(own, 8))
	}
	settings := [][]api.Given{nil, {given("x", "", 0)}, x.settings(s, 9), x.settings(own, 9)}
	var group sync.WaitGroup
	for worker := range 8 {
		group.Go(func() {
			for i := range 200 {
				checkParse(t, s, lists[(i+worker)%len(lists)])
				checkParse(t, own, lists[(i*worker)%len(lists)])
				checkPrint(t, s, settings[(i+worker)%len(settings)])
				checkPrint(t, own, settings[(i*worker)%len(settings)])
			}
		})
	}
	group.Wait()
}
