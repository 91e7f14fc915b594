package ini_test

import (
	"slices"
	"strings"
	"sync"
	"testing"
	"unsafe"

	"tinderbox/api"
	"tinderbox/ini"
)

// R2, R3

const earlyFile = "[net]\nport = 9000\n[]\nlog.dir=\"a b \""

// What is asked ahead of main is answered as at every other time.
var (
	earlyLines, earlyErrno, _   = ini.Parse(earlyFile)
	earlyNone, earlyWrong, _    = ini.Parse("a = 1\nb")
	earlyPrinted, earlyPrint    = ini.Print([]api.Line{{Name: "a", Text: " x"}})
	earlyRefused, earlyNotTaken = ini.Print([]api.Line{{Name: "a."}})
)

func TestCallsAheadOfMain(t *testing.T) {
	if want := []api.Line{line("net.port", "9000", 2), line("log.dir", "a b ", 4)}; !slices.Equal(earlyLines, want) || earlyErrno != api.OK {
		t.Errorf("Parse at start-up: %+v, %d", earlyLines, earlyErrno)
	}
	if len(earlyNone) != 0 || earlyWrong != api.ErrIniLine {
		t.Errorf("Parse of a wrong file at start-up: %+v, %d", earlyNone, earlyWrong)
	}
	if earlyPrinted != "a = \" x\"\n" || earlyPrint != api.OK || earlyRefused != "" || earlyNotTaken != api.ErrArg {
		t.Errorf("Print at start-up: %q, %d; %q, %d", earlyPrinted, earlyPrint, earlyRefused, earlyNotTaken)
	}
}

func TestListsThatAreHandedInAreNotWrittenInto(t *testing.T) {
	all := append(filler(7000, "\""), line("room", "x", 3), line("room", "", 4), line("", "\n", 5))
	before := slices.Clone(all)
	count := len(all) - 3
	for _, l := range [][]api.Line{all[:count], all[:count:count], all[1:count], all[:0], all[:count+1], all[:count+2], all, all[count+1:]} {
		ini.Print(l)
		if !slices.Equal(all, before) {
			t.Errorf("Print wrote into its list: %+v", all)
		}
	}
}

// spoil writes into a list, and into its spare room.
func spoil(lines []api.Line) {
	lines = lines[:cap(lines)]
	for i := range lines {
		lines[i] = line("spoilt", "spoilt", -1)
	}
}

func TestListsThatComeOutAreNewMemory(t *testing.T) {
	file := ""
	for i := range 26 {
		file += oneByte('a'+i) + " = \"x\"\n"
		one, _, _ := ini.Parse(file)
		two, _, _ := ini.Parse(file)
		want, _, _ := parsedByWords(file)
		spoil(one)
		if !slices.Equal(two, want) {
			t.Errorf("another list was written into: %+v", two)
		}
		wantLines(t, file, want...)
	}
}

// inside: does a text stand in the memory of another one?
func inside(s, all string) bool {
	if s == "" || all == "" {
		return false
	}
	at, begin := uintptr(unsafe.Pointer(unsafe.StringData(s))), uintptr(unsafe.Pointer(unsafe.StringData(all)))
	return at >= begin && at < begin+uintptr(len(all))
}

func TestTextsThatAreHandedInAreNotKept(t *testing.T) {
	file := strings.Repeat("#", 1000) + "\nnet.port = 9000\nlog.dir = \"a b\"\n[s]\nt = \"\"\nu = x"
	lines, e := checkParse(t, file)
	if len(lines) != 4 || e != api.OK {
		t.Fatalf("Parse: %+v, %d", lines, e)
	}
	for _, l := range lines {
		if inside(l.Name, file) || inside(l.Text, file) {
			t.Errorf("%+v has pieces of what was handed in", l)
		}
	}
	text := strings.Repeat("x", 150)
	if s, _ := ini.Print([]api.Line{line("a", text, 0)}); inside(s, text) {
		t.Error("Print tells a piece of what was handed in")
	}
}

// What one call answers does not hang on the calls ahead of it, nor on those beside it; a wrong file leaves nothing behind.
func TestCallsDoNotDisturbOneAnother(t *testing.T) {
	files := append([]string{"", "a = 1", "[s]\na = 1\nb = \"\\x0a\"", "[s.t]", "a = 1\n[a]\na = 2"}, badLines...)
	x := numbers(5)
	lists := [][]api.Line{nil, x.list(9), x.list(9), {line("a", "", 0), line("a", "", 0)}, filler(8000, "t"), filler(8001, "t")}
	var group sync.WaitGroup
	for worker := range 8 {
		group.Go(func() {
			for i := range 200 {
				checkParse(t, files[(i+worker)%len(files)])
				checkPrint(t, lists[(i*worker)%len(lists)])
			}
		})
	}
	group.Wait()
}
