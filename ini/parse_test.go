package ini_test

import (
	"slices"
	"strings"
	"testing"

	"tinderbox/api"
	"tinderbox/ini"
)

// I1: the chapter's examples

func TestParseExamples(t *testing.T) {
	wantLines(t, "[net]\n port = 9000 \n\n# x\n[]\nlog.dir=\"a b \"", line("net.port", "9000", 2), line("log.dir", "a b ", 6))
	wantLines(t, "")
	wantLines(t, "\n\n\n")
	wantLines(t, "a = b = c ; d", line("a", "b = c ; d", 1))
	for s, at := range map[string]int{
		"port": 1, "= 1": 1, "a = 1\n[a]\n[]\na = 2": 4, "[a.b.c]": 1, "[a.b]\nc.d = 1": 2, "[ a]": 1, `a = "b" c`: 1, "a = x\ty": 1, "a = x\ry": 1, "A = 1": 1,
	} {
		wantWrong(t, s, at)
	}
}

// I1: how long a file may be

func TestFilesOf8000BytesAndMore(t *testing.T) {
	for _, s := range []string{strings.Repeat("\n", 8000), "#" + strings.Repeat("x", 7999), strings.Repeat(" ", 8000), strings.Repeat("[]\n\n", 2000), "[" + strings.Repeat("a", 7998) + "]"} {
		wantLines(t, s)
		wantLong(t, s+" ")
		wantLong(t, "\n"+s)
	}
	wantLines(t, strings.Repeat("\n", 7993)+"a.b = 1", line("a.b", "1", 7994))
	wantLines(t, "a=1"+strings.Repeat(" ", 7997), line("a", "1", 1))
	wantWrong(t, strings.Repeat("\n", 7999)+"?", 8000)
	for _, s := range []string{strings.Repeat("?", 8001), "?" + strings.Repeat("\n", 8000), strings.Repeat("\n", 8000) + "?", "a = 1\na = 1\n" + strings.Repeat("#", 8000), strings.Repeat("x", 1<<16), strings.Repeat("a\n", 1<<16), strings.Repeat("\n", 1<<24)} {
		wantLong(t, s)
	}
}

func wantLong(t *testing.T, s string) {
	t.Helper()
	if lines, e, at := ini.Parse(s); len(lines) != 0 || e != api.ErrIniLong || at != 0 {
		t.Errorf("Parse of %d bytes, %.20q..: %+v, %d, %d", len(s), s, lines, e, at)
	}
}

// I1: lines that say nothing

func TestLinesThatSayNothing(t *testing.T) {
	for _, s := range []string{"", " ", "\t", " \t \t ", ";", "#", " ;", "\t#", " \t ; a = 1", "# a = 1", ";[a]", "#;", ";#", "##", "; \r", "#\x00\xff\x7f\t", ";\"", "# =", "#\u00e4\ufffd"} {
		wantLines(t, s)
		wantLines(t, s+"\na = 1\n"+s, line("a", "1", 2))
		wantLines(t, "[a]\n"+s+"\nb = 1", line("a.b", "1", 3))
	}
	for _, s := range []string{"\r", "\x00", "\x0b", "\x0c", "\x7f", "\xa0", "\u00a0", "\u2003", "\ufeff", "//", "--", "!", "'", "\"", "\"\"", ":", "%", "\\", "\r# x", "\ufeff# x"} {
		wantWrong(t, s, 1)
		wantWrong(t, "\n"+s+"\n", 2)
		wantWrong(t, s+" = 1", 1)
	}
}

// What begins with ; or # says nothing only at the beginning of a line.
func TestNothingIsLeftOutBehindALine(t *testing.T) {
	wantLines(t, "a = 1 # x\nb = 2;\nc = #\nd=;", line("a", "1 # x", 1), line("b", "2;", 2), line("c", "#", 3), line("d", ";", 4))
	for _, s := range []string{"[a] # x", "[a] ;", "[a];", "[] #", `a = "b" # x`, `a = "b";`, "a ; = 1", "a # b = 1", "a;=1"} {
		wantWrong(t, s, 1)
	}
}

// I1: sections

func TestSectionsOf0To3Parts(t *testing.T) {
	for section, whole := range map[string]string{"": "x", "a": "a.x", "net": "net.x", "z9": "z9.x", "a.b": "a.b.x", "a0.b9z": "a0.b9z.x"} {
		for _, s := range []string{"[" + section + "]", " [" + section + "]", "[" + section + "] ", "\t \t[" + section + "] \t "} {
			wantLines(t, s)
			wantLines(t, s+"\nx = 1", line(whole, "1", 2))
		}
	}
	for _, section := range []string{"a.b.c", "a.b.c.d", ".", "..", "a.", ".a", "a.b.", ".a.b", "a..b", "1", "a.1", "1.a", "A", "aB", "a.B", "a_b", "a-b", "a=1", "a,b", "\"a\"", "a\x00", "\u00e4", "\xff", "[a]", "[", "]", "a]", "[a", "#", "a]["} {
		wantWrong(t, "["+section+"]", 1)
		wantWrong(t, "x = 1\n["+section+"]\ny = 1", 2)
	}
}

func TestSectionsWithBlanksWithin(t *testing.T) {
	for _, s := range []string{"[ ]", "[\t]", "[ a]", "[a ]", "[\ta]", "[a\t]", "[a b]", "[a .b]", "[a. b]", "[a.b ]", "[  ]", "[ []"} {
		wantWrong(t, s, 1)
	}
}

func TestSectionsThatAreNotEndedJustThere(t *testing.T) {
	for _, s := range []string{"[", "[a", "[a.b", "[[]", "[]]", "[a]]", "[a]b", "[a] b", "[a]=1", "[a] = 1", "[a]\r", "[][]", "[a][b]", "a]", "]", "] = 1", "[a\n]", "[\n]", "[a] [b]"} {
		wantWrong(t, s, 1)
	}
	wantWrong(t, "[]\n]", 2)
}

// From a section on each name has its parts ahead, up to the next one; those of an earlier one are gone.
func TestEachSectionTakesTheOneAheadAway(t *testing.T) {
	wantLines(t, "v=0\n[a]\nv=1\nw=2\n[b.c]\nv=3\n# x\n\nw=4\n[]\nw=5\n[a]\nx=6\n[b]\nc.x=7\n[b.c]\n[b.d]\nv=8",
		line("v", "0", 1), line("a.v", "1", 3), line("a.w", "2", 4), line("b.c.v", "3", 6), line("b.c.w", "4", 9), line("w", "5", 11), line("a.x", "6", 13), line("b.c.x", "7", 15), line("b.d.v", "8", 18))
}

// The bound of 32 bytes is a whole name's: a section may be longer, but nothing can be given in it.
func TestSectionsOfManyBytes(t *testing.T) {
	for _, section := range []string{strings.Repeat("a", 31), strings.Repeat("a", 32), strings.Repeat("a", 33), "a." + strings.Repeat("b", 31), strings.Repeat("a", 20) + "." + strings.Repeat("b", 20), strings.Repeat("a", 4000), strings.Repeat("a", 3000) + "." + strings.Repeat("b9", 2000)} {
		s := "[" + section + "]"
		wantLines(t, s)
		wantLines(t, s+"\n[b]\nx = 1", line("b.x", "1", 3))
		wantWrong(t, s+"\n\nx = 1", 3)
	}
	wantLines(t, "["+strings.Repeat("a", 30)+"]\nx = 1", line(strings.Repeat("a", 30)+".x", "1", 2))
}

// I1: names

func TestNamesOf1To4PartsInSectionsOf0To2(t *testing.T) {
	for parts := 1; parts <= 4; parts++ {
		for _, part := range []string{"a", "z9", "abc0de"} {
			name := strings.Repeat(part+".", parts-1) + part
			for i, section := range []string{"", "s", "s.t9"} {
				s := "[" + section + "]\n" + name + " = 1"
				if i+parts > 3 {
					wantWrong(t, s, 2)
					continue
				}
				wantLines(t, s, line(strings.TrimPrefix(section+".", ".")+name, "1", 2))
			}
		}
	}
}

func TestNamesThatAreNone(t *testing.T) {
	for _, name := range []string{".", "..", "a.", ".a", "a..b", "1", "1a", "a.1", "A", "aB", "a_b", "a-b", "a b", "a\tb", "a .b", "a. b", "\"a\"", "a\x00", "\u00e4", "a\xff", "a\r", "a:", "a]", "?", "*", "'a'"} {
		for _, section := range []string{"", "[]\n", "[s]\n", "[s.t]\n"} {
			at := strings.Count(section, "\n") + 1
			wantWrong(t, section+name+" = 1", at)
			wantWrong(t, section+name+"=", at)
			wantWrong(t, section+name, at)
		}
	}
	wantWrong(t, "[s]\n=", 2)
}

func TestNamesOf32BytesAnd33(t *testing.T) {
	for _, whole := range []string{strings.Repeat("a", 32), "a." + strings.Repeat("b", 30), "a.b." + strings.Repeat("c", 28), strings.Repeat("a", 10) + "." + strings.Repeat("b", 10) + "." + strings.Repeat("c", 10)} {
		wantLines(t, whole+" = 1", line(whole, "1", 1))
		wantWrong(t, whole+"0 = 1", 1)
		for i := range len(whole) {
			if whole[i] != '.' {
				continue
			}
			section, name := whole[:i], whole[i+1:]
			wantLines(t, "["+section+"]\n"+name+"=1", line(whole, "1", 2))
			wantWrong(t, "["+section+"]\n"+name+"0=1", 2)
			wantWrong(t, "["+section+"0]\n"+name+"=1", 2)
		}
	}
	wantWrong(t, strings.Repeat("a", 7990)+" = 1", 1)
}

// I1: a name that a line ahead has given

func TestNamesThatALineAheadHasGiven(t *testing.T) {
	for s, at := range map[string]int{
		"a=1\na=1": 2, "a=1\na=2": 2, "a = 1\n\n\ta\t=": 3, "a=\na=": 2, "[s]\na=1\na=1": 3, "[s]\na=1\n[t]\na=1\n[s]\na=1": 6, "[s]\na=1\n[]\ns.a=1": 4, "s.a=1\n[s]\na=1": 3, "[s.t]\na=1\n[s]\nt.a=1": 4, "[s]\nt.a=1\n[s.t]\na=1": 4, "[s]\nt.a=1\n[]\ns.t.a=1": 4, "s.t.a=1\nb=2\ns.t.b=3\n[s.t]\nc=4\nb=5": 6, "a=1\nb=2\nc=3\nb=4\na=5": 4,
	} {
		wantWrong(t, s, at)
	}
	wantLines(t, "a=1\n[a]\na=1\n[a.a]\na=1\n[b]\na=1", line("a", "1", 1), line("a.a", "1", 3), line("a.a.a", "1", 5), line("b.a", "1", 7))
	wantLines(t, "a=1\nab=2\naba=3\na.b=4\nb.a=5\na0=6", line("a", "1", 1), line("ab", "2", 2), line("aba", "3", 3), line("a.b", "4", 4), line("b.a", "5", 5), line("a0", "6", 6))
}

// Of very many names each one is known, the first, the last and those between.
func TestEachNameOfAFullFileIsKnown(t *testing.T) {
	file, want := "", []api.Line{}
	for i := range 1100 {
		name := "a" + string([]byte{byte('a' + i/676), byte('a' + i/26%26), byte('a' + i%26)})
		file += name + "=\n"
		want = append(want, line(name, "", i+1))
	}
	wantLines(t, file, want...)
	for _, i := range []int{0, 1, 500, 1098, 1099} {
		wantWrong(t, file+want[i].Name+"=", 1101)
	}
}

// I1: the first =

func TestBlanksAroundTheSign(t *testing.T) {
	for _, ahead := range []string{"", " ", "\t", " \t  "} {
		for _, behind := range []string{"", " ", "\t", "\t \t"} {
			wantLines(t, "a.b"+ahead+"="+behind+"x y", line("a.b", "x y", 1))
			wantLines(t, ahead+"a.b=x"+behind, line("a.b", "x", 1))
			wantLines(t, "a"+ahead+"="+behind, line("a", "", 1))
			wantLines(t, ahead+"a"+ahead+"="+behind+`" x "`+behind, line("a", " x ", 1))
			wantWrong(t, ahead+"="+behind+"x", 1)
			wantWrong(t, ahead+"="+behind, 1)
			wantWrong(t, "[a]\n"+ahead+"="+behind+"x", 2)
		}
	}
	for _, s := range []string{"\r", "\x0b", "\x0c", "\u00a0", "\x00", "\x7f"} {
		wantWrong(t, "a"+s+"= 1", 1)
		wantWrong(t, s+"a = 1", 1)
		wantWrong(t, "a ="+s+"1", 1)
		wantWrong(t, "a = 1"+s, 1)
		wantWrong(t, "a ="+s, 1)
	}
}

func TestLinesWithoutTheSign(t *testing.T) {
	for _, s := range []string{"a", "a.b", "a 1", "a: 1", "a \"x\"", "net.port 80", "a -", "a\n= 1"} {
		wantWrong(t, s, 1)
		wantWrong(t, "b = 1\n"+s, 2)
	}
}

// I1: texts

func TestTextsThatAreBare(t *testing.T) {
	for _, text := range []string{"", "x", "0", "b = c", "=", "==", "= 1", ";", "; d", "#", "# e", "[a]", "]", "a\"b", "x\"", "x\"y\"", "'x'", `\`, `\x41`, `\"`, "a  b", "${net.port}", "~", "!", "a = \"b\"", strings.Repeat("t", 200), "x" + strings.Repeat(" ", 198) + "x"} {
		wantLines(t, "a = "+text, line("a", text, 1))
		wantLines(t, "a="+text, line("a", text, 1))
		wantLines(t, "\n a = "+text+" \t\nb=2", line("a", text, 2), line("b", "2", 3))
	}
}

func TestBareTextsOfEachByte(t *testing.T) {
	for b := range 256 {
		checkParse(t, "a = "+oneByte(b))
		checkParse(t, "a ="+oneByte(b)+"x")
		checkParse(t, "a = x"+oneByte(b))
		s := "a = x" + oneByte(b) + "y"
		if b == 10 {
			wantWrong(t, s, 2)
		} else if b >= 32 && b <= 126 {
			wantLines(t, s, line("a", "x"+oneByte(b)+"y", 1))
		} else {
			wantWrong(t, s, 1)
		}
	}
	for _, text := range []string{"x\u00e4", "\u20ac", "x\ufffd", "x\t\ty", "\x7fx", "x\x80", "x\xffy", "x\r", "\x00"} {
		wantWrong(t, "a = "+text, 1)
	}
}

func TestTextsThatAreQuoted(t *testing.T) {
	for quoted, meant := range map[string]string{
		`""`: "", `"x"`: "x", `" x "`: " x ", `"a=b;c#d"`: "a=b;c#d", `"\""`: `"`, `"\\"`: `\`, `"\\\""`: `\"`, `"\x09"`: "\t", `"\x0a\x0d"`: "\n\r", `"\x00\x7f\x80\xff"`: "\x00\x7f\x80\xff", `"\xc3\xa4"`: "\u00e4", `"   "`: "   ", `"[a]"`: "[a]", `"\\x41"`: `\x41`,
	} {
		wantLines(t, "a = "+quoted, line("a", meant, 1))
		wantLines(t, "[a]\nb="+quoted+" \t", line("a.b", meant, 2))
	}
}

func TestTextsThatAreQuotedWrongly(t *testing.T) {
	for _, text := range []string{`"`, `"""`, `"x`, `"x\"`, `"\"`, `"\x41"`, `"\x0A"`, `"\n"`, `"\x0"`, `"\x"`, `"\xg0"`, `"\`, `"a"b"`, `"a" "b"`, `""x`, `"" ""`, `"b" c`, `"b"c`, `"b" ;`, `"b" # c`, `"b",`, "\"\t\"", "\"a\tb\"", "\"\r\"", "\"\x7f\"", "\"\u00e4\"", "\"\x00\"", "\"\xff\"", "\"x\"\r", "\"a\nb\"", "\"\n\""} {
		wantWrong(t, "a = "+text, 1)
		wantWrong(t, "b = 1\n[c]\na="+text+"\nd = ", 3)
	}
}

func TestWhatIsMeantOf200BytesAndOf201(t *testing.T) {
	for _, b := range []string{"t", "=", "\"", "\\", "\n", "\x00", "\xff", " "} {
		meant := strings.Repeat(b, 200)
		wantLines(t, "a = "+quotedByWords(meant), line("a", meant, 1))
		wantWrong(t, "a = "+quotedByWords(meant+b), 1)
		wantWrong(t, "a = "+quotedByWords(meant+"t"), 1)
		wantWrong(t, "a = "+quotedByWords("t"+meant), 1)
	}
	for _, length := range []int{199, 200, 201, 202, 255, 256, 257, 456, 512, 1000, 1024 + 100, 7990} {
		s := "\n\na = " + strings.Repeat("t", length)
		if length > 200 {
			wantWrong(t, s, 3)
			wantWrong(t, "\na = \""+strings.Repeat("t", length)+"\"", 2)
			continue
		}
		wantLines(t, s, line("a", strings.Repeat("t", length), 3))
	}
	wantLines(t, "a = "+strings.Repeat("t", 200)+strings.Repeat(" ", 300), line("a", strings.Repeat("t", 200), 1))
	wantLines(t, "a ="+strings.Repeat(" ", 300)+strings.Repeat("t", 200), line("a", strings.Repeat("t", 200), 1))
}

// I1: the number of the first wrong line

// badLines are lines that are wrong behind b=1, each for another reason.
var badLines = []string{"?", "a", "=1", "[", "[ ]", "[a.b.c]", "a.b.c.d=1", "A=1", "a=\t\x00", `a="`, `a="\x41"`, "b=2", "a=" + strings.Repeat("t", 201), strings.Repeat("a", 33) + "=", "a=\r", "\r"}

func TestTheFirstOfSeveralWrongLines(t *testing.T) {
	for i, bad := range badLines {
		other := badLines[(i+5)%len(badLines)]
		for ahead := range 12 {
			good := "b=1\n" + strings.Repeat("# x\n", ahead)
			wantWrong(t, good+bad, ahead+2)
			wantWrong(t, good+bad+"\n", ahead+2)
			wantWrong(t, good+bad+"\n"+other, ahead+2)
			wantWrong(t, good+bad+"\nc=1\n[]\n"+bad+"\n"+other+"\n", ahead+2)
		}
	}
	wantWrong(t, "a=1\n?\na=1", 2)
	wantWrong(t, "a=1\na=1\n?", 2)
	wantWrong(t, "[s]\n[t.u.v]\nx.y.z=1", 2)
}

// I1: beside an error there is nothing, however many lines were right.
func TestNothingIsToldBesideAnError(t *testing.T) {
	file := ""
	for i := range 26 {
		file += oneByte('a'+i) + " = 1\n"
		for _, bad := range []string{"?", "a = 2", "[ ]"} {
			lines, e, at := ini.Parse(file + bad)
			if len(lines) != 0 || e != api.ErrIniLine || at != i+2 {
				t.Errorf("Parse of %q: %+v, %d, %d", file+bad, lines, e, at)
			}
		}
	}
}

// I1: all files of few bytes of which files are made.

func TestFilesOfFewBytes(t *testing.T) {
	counts := map[api.Errno]int{}
	count := func(s string) {
		_, e := checkParse(t, s)
		counts[e]++
	}
	eachText("a=\n[].", 6, count)
	eachText("a= \t\"\\;\n", 5, count)
	eachText("a1A=#[\r\x7f", 4, count)
	eachText("x\"\\ a\t\r\xff0", 4, func(s string) {
		count("a = " + s)
		count("a=\"" + s)
		count("a =\"" + s + "\"")
		count("[" + s + "]\nb = 1")
		count(s + "=")
	})
	eachText("ab.\n", 5, func(s string) {
		count("[" + s + "]\na=")
		count("[a]\n" + s + "=\n[]\na=")
		count("a.b=\n[" + s + "]\nb=")
	})
	if counts[api.OK] < 2000 || counts[api.ErrIniLine] < 20_000 {
		t.Errorf("how often each was answered: %v", counts)
	}
}

// I1: a line is the same wherever it stands; so a file is what its lines are, one behind another.
func TestAllTriplesOfLines(t *testing.T) {
	few := []string{"", "# a=3", "[]", "[a]", " [a.b] ", "a=1", "b = \"x\" ", "a.b=2", "c", "[c", "a.b.c="}
	oks := 0
	for _, one := range few {
		for _, two := range few {
			for _, three := range few {
				for _, four := range []string{"", "b=", "a.b.c=4"} {
					_, e := checkParse(t, strings.Join([]string{one, two, three, four}, "\n"))
					if e == api.OK {
						oks++
					}
				}
			}
		}
	}
	if oks < 500 {
		t.Errorf("only %d were right", oks)
	}
}

func FuzzFiles(f *testing.F) {
	for _, s := range slices.Concat(badLines, []string{"", "a = 1", "[a]\nb = \"\\x0a\"\n", "a = b = c ; d"}) {
		f.Add(s)
	}
	f.Fuzz(func(t *testing.T, s string) {
		lines, e := checkParse(t, s)
		checkPrint(t, lines)
		if e == api.OK {
			checkReadAgain(t, lines)
		}
		checkPrint(t, []api.Line{line(s, "x", 1), line("b", s, 1)})
		checkPrint(t, []api.Line{line("a", s, -1)})
	})
}
