package ini_test

import (
	"strings"
	"testing"

	"tinderbox/api"
	"tinderbox/ini"
)

// wantPrinted: a list is printed as just that file.
func wantPrinted(t *testing.T, want string, l ...api.Line) {
	t.Helper()
	if s, e := checkPrint(t, l); s != want || e != api.OK {
		t.Errorf("Print of %+v: %q, %d; not %q", l, s, e, want)
	}
}

// wantRefused: a list is no file.
func wantRefused(t *testing.T, l ...api.Line) {
	t.Helper()
	if s, e := checkPrint(t, l); s != "" || e != api.ErrArg {
		t.Errorf("Print of %d lines: %.300q, %d", len(l), s, e)
	}
}

// I2: the chapter's examples

func TestPrintExamples(t *testing.T) {
	wantPrinted(t, "a = x\nb.c = \"\"\nd = \" x\"\n", line("a", "x", 0), line("b.c", "", 0), line("d", " x", 0))
	wantRefused(t, line("a", "x", 0), line("b", "x", 0), line("a", "y", 0))
}

func TestPrintOfNoLine(t *testing.T) {
	wantPrinted(t, "")
	if s, e := ini.Print([]api.Line{}); s != "" || e != api.OK {
		t.Errorf("Print of an empty list: %q, %d", s, e)
	}
}

// I2: names

func TestPrintOfNames(t *testing.T) {
	for _, name := range []string{"a", "z9", "net.port", "a1.b.c2", strings.Repeat("a", 32), "a.b." + strings.Repeat("c", 28)} {
		wantPrinted(t, name+" = x\n", line(name, "x", 0))
	}
	for _, name := range []string{"", ".", "a.", ".a", "a..b", "1a", "a.1", "A", "aB", "a_b", "a-b", "a b", " a", "a ", "a\t", "a\n", "a=", "[a]", "#a", ";a", "\"a\"", "a.b.c.d", "a\x00", "\u00e4", "a\xff", strings.Repeat("a", 33), "a.b." + strings.Repeat("c", 29), strings.Repeat("a", 1<<20)} {
		for _, text := range []string{"x", "", " x"} {
			wantRefused(t, line(name, text, 0))
			wantRefused(t, line("z", "x", 0), line(name, text, 0))
			wantRefused(t, line(name, text, 0), line("z", "x", 0))
		}
	}
}

func TestPrintOfNamesThatAreThereTwice(t *testing.T) {
	for _, name := range []string{"a", "net.port", "a.b.c", strings.Repeat("a", 32)} {
		wantRefused(t, line(name, "x", 0), line(name, "x", 0))
		wantRefused(t, line(name, "x", 1), line(name, "y", 2))
		wantRefused(t, line("z", "", 0), line(name, "x", 0), line("y", "", 0), line(name, "", 0), line("x", "", 0))
	}
	wantPrinted(t, "a = x\na.a = x\naa = x\na.a.a = x\nb.a = x\na0 = x\n", line("a", "x", 0), line("a.a", "x", 0), line("aa", "x", 0), line("a.a.a", "x", 0), line("b.a", "x", 0), line("a0", "x", 0))
}

// At is not looked at; lines stand in the order of the list.
func TestPrintKeepsTheOrder(t *testing.T) {
	for _, at := range []int{0, 1, -1, 2, 77, 1 << 62, -1 << 63} {
		wantPrinted(t, "z = 1\na.b = 2\nm = 3\na = 4\n", line("z", "1", at), line("a.b", "2", at), line("m", "3", -at), line("a", "4", 3))
	}
}

// I2: texts

func TestPrintOfTexts(t *testing.T) {
	for text, want := range map[string]string{
		"x": "x", "0": "0", "a b": "a b", "a  b": "a  b", "a\"": "a\"", "a\"b\"": "a\"b\"", "= b": "= b", "; c": "; c", "# c": "# c", "[a]": "[a]", `\`: `\`, `\x41`: `\x41`, `a\`: `a\`, "'": "'", "~": "~", "!": "!", "a = b = c ; d": "a = b = c ; d",
		"": `""`, " ": `" "`, "  ": `"  "`, " x": `" x"`, "x ": `"x "`, " x ": `" x "`, `"`: `"\""`, `"x`: `"\"x"`, `"x"`: `"\"x\""`, `""`: `"\"\""`,
		"\t": `"\x09"`, "\tx": `"\x09x"`, "x\t": `"x\x09"`, "a\tb": `"a\x09b"`, "\n": `"\x0a"`, "a\nb": `"a\x0ab"`, "\r": `"\x0d"`, "x\r": `"x\x0d"`, "\x00": `"\x00"`, "\x1f": `"\x1f"`, "\x7f": `"\x7f"`, "a\x7fb": `"a\x7fb"`, "\x80": `"\x80"`, "\u00e4": `"\xc3\xa4"`, "\xff": `"\xff"`, "\t\\\"": `"\x09\\\""`, ` \`: `" \\"`, "x\u00a0": `"x\xc2\xa0"`,
	} {
		wantPrinted(t, "n.o = "+want+"\n", line("n.o", text, 7))
		wantPrinted(t, "a = "+want+"\nb = "+want+"\n", line("a", text, 7), line("b", text, 7))
	}
}

func TestPrintOfAnyTwoBytes(t *testing.T) {
	for a := range 256 {
		checkPrintRead(t, oneByte(a))
		checkPrintRead(t, "x"+oneByte(a)+"y")
		for b := range 256 {
			checkPrintRead(t, oneByte(a)+oneByte(b))
		}
	}
}

// checkPrintRead holds Print of a text against the chapter's words, and Parse against Print.
func checkPrintRead(t *testing.T, text string) {
	t.Helper()
	s, e := checkPrint(t, []api.Line{line("a", text, 0)})
	lines, wrong, _ := ini.Parse(s)
	if e != api.OK || wrong != api.OK || len(lines) != 1 || lines[0] != line("a", text, 1) {
		t.Errorf("Parse of Print of %q: %+v, %d, %d", text, lines, e, wrong)
	}
}

func TestPrintOfTextsOf200BytesAndOf201(t *testing.T) {
	for _, b := range []string{"t", "\"", "\\", "\x00", "\xff", " ", "\n", "="} {
		checkPrintRead(t, strings.Repeat(b, 199))
		checkPrintRead(t, strings.Repeat(b, 200))
		checkPrintRead(t, "x"+strings.Repeat(b, 198)+"x")
		for _, length := range []int{201, 202, 256, 257, 400, 1 << 16, 1 << 20} {
			wantRefused(t, line("a", strings.Repeat(b, length), 0))
			wantRefused(t, line("b", "x", 0), line("a", strings.Repeat(b, length), 0), line("c", "x", 0))
		}
	}
}

// I2: how long the file may be

// filler is a list whose file has just so many bytes; most of its texts are of that byte alone.
func filler(bytes int, b string) []api.Line {
	var l []api.Line
	for i := 0; ; i++ {
		long := line("a"+oneByte('a'+i/26)+oneByte('a'+i%26), strings.Repeat(b, 200), i)
		file, _ := printedByWords([]api.Line{long})
		if bytes < 2*len(file) {
			break
		}
		l = append(l, long)
		bytes -= len(file)
	}
	for i := 0; bytes > 0; i++ {
		// A line of a name of three bytes has 7 beside its text, which has at most 200.
		length := bytes
		if bytes > 207 {
			length = 100
		}
		l = append(l, line("b."+oneByte('a'+i), strings.Repeat("u", length-7), i))
		bytes -= length
	}
	return l
}

func TestFilesOfJust8000BytesAndOneMore(t *testing.T) {
	for _, b := range []string{"t", "\"", "\xff", " "} {
		for bytes := 7900; bytes <= 8300; bytes++ {
			l := filler(bytes, b)
			s, e := checkPrint(t, l)
			if bytes > 8000 && (s != "" || e != api.ErrArg) || bytes <= 8000 && (len(s) != bytes || e != api.OK) {
				t.Errorf("a file of %d bytes: %d, %d", bytes, len(s), e)
			}
			if bytes == 8000 {
				checkReadAgain(t, l)
				wantRefused(t, append(l, line("y", "", 0))...)
				wantRefused(t, append([]api.Line{line("y", "x", 0)}, l...)...)
			}
		}
	}
}

func TestListsThatAreFarTooLong(t *testing.T) {
	var l []api.Line
	for i := range 200_000 {
		l = append(l, line("a"+oneByte('a'+i%26)+oneByte('a'+i/26%26)+oneByte('a'+i/676%26)+oneByte('a'+i/17576), "", i))
	}
	for _, count := range []int{1000, 2000, 100_000, 200_000} {
		wantRefused(t, l[:count]...)
	}
	wantRefused(t, make([]api.Line, 1<<16)...)
}

// Where a list is wrong in several ways, the answer is the same.
func TestPrintOfListsThatAreWrongTwice(t *testing.T) {
	wrongs := []api.Line{line("", "x", 0), line("a", "y", 0), line("b", strings.Repeat("t", 201), 0), line("A", "\n", 0), line("a", strings.Repeat("t", 201), 0)}
	for _, one := range wrongs {
		for _, two := range wrongs {
			wantRefused(t, line("a", "x", 0), one, two)
			wantRefused(t, one, line("a", "x", 0), two)
			wantRefused(t, append(filler(8000, "t"), line("a", "x", 0), one, two)...)
		}
	}
}
