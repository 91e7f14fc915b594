package ini_test

import (
	"slices"
	"strings"
	"testing"

	"tinderbox/api"
	"tinderbox/ini"
)

// I3, P7

// numbers gives the same numbers in every run.
type numbers uint64

func (x *numbers) next() int {
	*x = *x*6364136223846793005 + 1442695040888963407
	return int(*x >> 33)
}

func (x *numbers) text(letters string, most int) string {
	b := make([]byte, x.next()%(most+1))
	for i := range b {
		b[i] = letters[x.next()%len(letters)]
	}
	return string(b)
}

func (x *numbers) blanks() string {
	return x.text(" \t", 3)
}

// meaning is a text of a line: of any bytes, of those that a file is made of, or of plain ones.
func (x *numbers) meaning() string {
	switch x.next() % 4 {
	case 0:
		bytes := make([]byte, x.next()%12)
		for i := range bytes {
			bytes[i] = byte(x.next())
		}
		return string(bytes)
	case 1:
		return x.text("\"\\= \t;#[].x\n\r", 9)
	case 2:
		return x.text("ab =;#\"\\[]", 200)
	}
	return x.text("abc019.:/", 20)
}

// list is one of lines that Print takes, as long as it is no longer than a file.
func (x *numbers) list(most int) []api.Line {
	var l []api.Line
	for range x.next() % (most + 1) {
		parts := []string{oneByte('a' + x.next()%3), oneByte('a'+x.next()%2) + x.text("a0", 2), oneByte('a'+x.next()%26) + x.text("z9", 8)}
		name := strings.Join(parts[x.next()%3:], ".")
		if !slices.ContainsFunc(l, func(other api.Line) bool { return other.Name == name }) {
			l = append(l, line(name, x.meaning(), x.next()))
		}
	}
	return l
}

// numbered are the same lines, numbered from 1 on.
func numbered(l []api.Line) []api.Line {
	l = slices.Clone(l)
	for i := range l {
		l[i].At = i + 1
	}
	return l
}

// checkReadAgain: Parse of Print gives the very same names and texts, numbered from 1 on, if Print takes them.
func checkReadAgain(t *testing.T, l []api.Line) bool {
	t.Helper()
	s, e := checkPrint(t, l)
	if e != api.OK {
		if s != "" || e != api.ErrArg {
			t.Errorf("Print of %+v: %q, %d", l, s, e)
		}
		return false
	}
	again, wrong, at := ini.Parse(s)
	if !slices.Equal(again, numbered(l)) || wrong != api.OK || at != 0 {
		t.Errorf("Parse of %q: %+v, %d, %d; printed was %+v", s, again, wrong, at, l)
	}
	if twice, e := ini.Print(again); twice != s || e != api.OK {
		t.Errorf("Print of Parse of %q: %q, %d", s, twice, e)
	}
	return true
}

func TestWhatIsPrintedIsRead(t *testing.T) {
	x := numbers(1)
	count := 0
	for range 3000 {
		if checkReadAgain(t, x.list(30)) {
			count++
		}
	}
	if count < 2000 {
		t.Errorf("only %d were printed", count)
	}
}

// checkPrintedAgain: what is read is printed, and read again as the same names and texts, as long as Print takes it.
func checkPrintedAgain(t *testing.T, s string) bool {
	t.Helper()
	lines, e := checkParse(t, s)
	return e == api.OK && checkReadAgain(t, lines)
}

func TestWhatIsReadIsPrinted(t *testing.T) {
	x := numbers(2)
	count := 0
	for range 30_000 {
		var lines []string
		for range x.next() % 8 {
			lines = append(lines, x.line())
		}
		if checkPrintedAgain(t, strings.Join(lines, "\n")) {
			count++
		}
	}
	if count < 10_000 {
		t.Errorf("only %d were read", count)
	}
}

// line is one of a file; few are wrong.
func (x *numbers) line() string {
	switch x.next() % 8 {
	case 0:
		return x.blanks() + x.text(";#", 1) + x.blanks()
	case 1:
		return x.blanks() + "[" + x.text("ab.", 3) + "]" + x.blanks()
	case 2:
		return x.text("a.=[]\"# \t", 9)
	}
	text := x.text("a =;\"", 5)
	if x.next()%2 == 0 {
		text = quotedByWords(x.meaning())
	}
	return x.blanks() + oneByte('a'+x.next()%26) + x.text("z9.", 2) + x.blanks() + "=" + x.blanks() + text + x.blanks()
}

// With whole names what was read may be longer than a file: Print refuses it then.
func TestWhatIsLongerWithWholeNames(t *testing.T) {
	section := "[" + strings.Repeat("s", 28) + "]\n"
	file := section
	for i := range 400 {
		file += oneByte('a'+i/26) + oneByte('a'+i%26) + "=\n"
	}
	lines, e := checkParse(t, file)
	if len(lines) != 400 || e != api.OK {
		t.Fatalf("%d lines, %d", len(lines), e)
	}
	// Each line is printed with 31 bytes of a name, and 6 more.
	wantRefused(t, lines...)
	wantRefused(t, lines[:217]...)
	if !checkReadAgain(t, lines[:216]) {
		t.Error("a file of 216 such lines was refused")
	}
}

// One list has one file, and no two have the same.
func TestNoTwoListsArePrintedAlike(t *testing.T) {
	byFile := map[string][]api.Line{}
	check := func(l ...api.Line) {
		s, e := ini.Print(l)
		if e != api.OK {
			t.Errorf("Print of %+v: %d", l, e)
		}
		other, there := byFile[s]
		if there && !slices.Equal(numbered(other), numbered(l)) {
			t.Errorf("%+v and %+v are both printed as %q", other, l, s)
		}
		byFile[s] = l
	}
	eachText("\"\\ =x\n", 4, func(text string) {
		check(line("a", text, 1))
		check(line("a.b", text, 1))
		check(line("a", text, 0), line("b", "x", 0))
		check(line("a", "x", 0), line("b", text, 0))
	})
	x := numbers(3)
	for range 2000 {
		check(x.list(4)...)
	}
	if len(byFile) < 5000 {
		t.Errorf("only %d files", len(byFile))
	}
}

// I3: what makes no difference

// written is a file of a list, in any of the ways in which one may be written: with sections and silent lines, with blanks, bare or quoted; and the list with its numbers.
func (x *numbers) written(l []api.Line) (string, []api.Line) {
	var rows []string
	ahead := ""
	l = slices.Clone(l)
	for i := range l {
		for x.next()%3 == 0 {
			rows = append(rows, x.blanks()+[]string{"", ";", "#", "# a = 1", ";[b]"}[x.next()%5])
		}
		if x.next()%2 == 0 || !strings.HasPrefix(l[i].Name, ahead) {
			ahead = x.aheadOf(l[i].Name)
			rows = append(rows, x.blanks()+"["+strings.TrimSuffix(ahead, ".")+"]"+x.blanks())
		}
		text := l[i].Text
		if text != "" && !bareForm.MatchString(text) || x.next()%2 == 0 {
			text = quotedByWords(text)
		}
		rows = append(rows, x.blanks()+strings.TrimPrefix(l[i].Name, ahead)+x.blanks()+"="+x.blanks()+text+x.blanks())
		l[i].At = len(rows)
	}
	return strings.Join(rows, "\n") + x.text("\n", 2), l
}

// aheadOf is what a section may lay ahead of a name: none of its parts, or some, but not the last one.
func (x *numbers) aheadOf(name string) string {
	parts := strings.SplitAfter(name, ".")
	return strings.Join(parts[:x.next()%len(parts)], "")
}

func TestHowAFileIsWrittenMakesNoDifference(t *testing.T) {
	x := numbers(4)
	count := 0
	for range 2000 {
		l := x.list(12)
		for range 4 {
			s, want := x.written(l)
			lines, e := checkParse(t, s)
			if len(s) > 8000 {
				continue
			}
			count++
			if !slices.Equal(lines, want) || e != api.OK {
				t.Errorf("Parse of %q: %+v, %d; not %+v", s, lines, e, want)
			}
			printed, _ := ini.Print(lines)
			if plain, _ := ini.Print(l); printed != plain {
				t.Errorf("Print of what was read of %q: %q, not %q", s, printed, plain)
			}
		}
	}
	if count < 7000 {
		t.Errorf("only %d files", count)
	}
}
