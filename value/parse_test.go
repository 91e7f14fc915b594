package value_test

import (
	"math/big"
	"strconv"
	"strings"
	"testing"

	"tinderbox/api"
	"tinderbox/value"
)

// V2: the chapter's examples

func TestParseExamples(t *testing.T) {
	for _, c := range []struct {
		kind  int
		s     string
		n     int
		print string
	}{
		{api.Size, "4096", 4096, "4k"}, {api.Size, "1536", 1536, "1536"}, {api.Size, "2048k", 2097152, "2m"}, {api.Size, "1048576g", 1 << 50, "1048576g"},
		{api.Span, "90s", 90, "90s"}, {api.Span, "120s", 120, "2m"}, {api.Span, "0", 0, "0s"}, {api.Span, "0d", 0, "0s"},
		{api.Int, "-7", -7, "-7"}, {api.Bool, "on", 1, "true"},
	} {
		v, e := value.Parse(c.kind, c.s)
		if !alike(v, api.Value{Kind: c.kind, Int: c.n}) || e != api.OK {
			t.Errorf("Parse(%d, %q): %v, %d", c.kind, c.s, v, e)
		}
		if s, e := value.Print(v); s != c.print || e != api.OK {
			t.Errorf("Print of %v: %q, %d; not %q", v, s, e, c.print)
		}
	}
	v, e := value.Parse(api.Words, "log,net")
	if !alike(v, api.Value{Kind: api.Words, Words: []string{"log", "net"}}) || e != api.OK {
		t.Errorf("Parse of two words: %v, %d", v, e)
	}
	if v, e := value.Parse(api.Words, ""); !alike(v, api.Value{Kind: api.Words}) || e != api.OK {
		t.Errorf("Parse of no words: %v, %d", v, e)
	}
}

func checkWrong(t *testing.T, kind int, s string, wrong api.Errno) {
	t.Helper()
	v, e := value.Parse(kind, s)
	if e != wrong || v.Kind != 0 || v.Int != 0 || v.Text != "" || len(v.Words) != 0 {
		t.Errorf("Parse(%d, %q, %d bytes): %v, %d; not %d and nothing beside it", kind, first(s), len(s), v, e, wrong)
	}
}

func TestParseExamplesThatAreRefused(t *testing.T) {
	checkWrong(t, api.Size, "1048577g", api.ErrValueRange)
	for _, s := range []string{"04k", "4K", "k", "-1", "4 k", ""} {
		checkWrong(t, api.Size, s, api.ErrValueForm)
	}
	checkWrong(t, api.Span, "5", api.ErrValueForm)
	for _, s := range []string{"-0", "+7", "07"} {
		checkWrong(t, api.Int, s, api.ErrValueForm)
	}
	for _, s := range []string{"4611686018427387905", strings.Repeat("9", 400)} {
		checkWrong(t, api.Int, s, api.ErrValueRange)
	}
	checkWrong(t, api.Bool, "On", api.ErrValueForm)
	checkWrong(t, 7, "on", api.ErrArg)
	for _, s := range []string{"log,", ",", "a, b", strings.Repeat("a,", 16) + "A"} {
		checkWrong(t, api.Words, s, api.ErrValueForm)
	}
	checkWrong(t, api.Words, strings.Join(list(17, 1), ","), api.ErrValueLong)
	checkWrong(t, api.Words, strings.Join(listOf(201), ","), api.ErrValueLong)
}

// V2: kinds

// That the kind is none is named ahead of all that is wrong with the text.
func TestParseOfNoKind(t *testing.T) {
	for _, kind := range noKinds {
		for _, s := range []string{"", "on", "true", "0", "1", "1k", "a", "a,b", "\n", ",", strings.Repeat("9", 400), strings.Repeat("a", 201), strings.Repeat("a,", 20)} {
			checkWrong(t, kind, s, api.ErrArg)
		}
	}
}

// V2: Bool

func TestParseOfBool(t *testing.T) {
	for s, want := range map[string]int{"true": 1, "yes": 1, "on": 1, "false": 0, "no": 0, "off": 0} {
		if v, e := value.Parse(api.Bool, s); !alike(v, api.Value{Kind: api.Bool, Int: want}) || e != api.OK {
			t.Errorf("Parse of %q: %v, %d", s, v, e)
		}
		for _, other := range []string{strings.ToUpper(s), strings.ToUpper(s[:1]) + s[1:], s + " ", " " + s, s + s, s[:1], s[1:], s[:len(s)-1], s + "\x00", s + ",", s + "\n"} {
			checkParse(t, api.Bool, other)
		}
	}
	for _, s := range []string{"", "0", "1", "t", "f", "y", "n", "TRUE", "yea", "nope", "onn", strings.Repeat("true", 1000)} {
		checkWrong(t, api.Bool, s, api.ErrValueForm)
	}
	eachText("onf", 4, func(s string) { checkParse(t, api.Bool, s) })
}

// V2: numbers

var numberKinds = []int{api.Int, api.Size, api.Span}

func TestParseOfShortNumbers(t *testing.T) {
	for _, kind := range numberKinds {
		eachText("0129-+kmgshd K.,x\x00\xff", 3, func(s string) { checkParse(t, kind, s) })
		eachText("01-km", 6, func(s string) { checkParse(t, kind, s) })
	}
}

func TestParseOfNumbersWithAnyByte(t *testing.T) {
	for _, kind := range numberKinds {
		for b := range 256 {
			x := string([]byte{byte(b)})
			for _, s := range []string{x, "7" + x, x + "7", "7" + x + "7", "0" + x, "-" + x, "7k" + x, "7s" + x, strings.Repeat("9", 40) + x} {
				checkParse(t, kind, s)
			}
		}
	}
}

// Digits of other writings, and letters that look like units, are none.
func TestParseOfNumbersInOtherWritings(t *testing.T) {
	for _, kind := range numberKinds {
		for _, s := range []string{"٣", "１", "1１", "२k", "−7", "1ĸ", "1µ", "1 k", "1\xc0\xb0", "\xc0\xb1", "1\u0301"} {
			checkWrong(t, kind, s, api.ErrValueForm)
		}
	}
}

// Each bound, and what lies about it, in each unit.
func TestParseAboutTheBounds(t *testing.T) {
	for _, kind := range numberKinds {
		for _, stands := range []int{1, 1 << 10, 1 << 20, 1 << 30, 60, 3600, 86400} {
			for _, bound := range []int{1 << 62, 1 << 50, 1 << 40} {
				for by := -3; by <= 3; by++ {
					for _, name := range []string{"", "k", "m", "g", "s", "h", "d"} {
						s := strconv.Itoa(bound/stands+by) + name
						checkParse(t, kind, s)
						checkParse(t, kind, "-"+s)
						checkParse(t, kind, s+"0")
						checkParse(t, kind, s+"000000000000")
					}
				}
			}
		}
	}
	for _, c := range []struct {
		kind int
		s    string
	}{
		{api.Int, "4611686018427387904"}, {api.Int, "-4611686018427387904"}, {api.Size, "1125899906842624"}, {api.Size, "1099511627776k"}, {api.Size, "1073741824m"},
		{api.Span, "1099511627776s"}, {api.Span, "18325193796m"}, {api.Span, "305419896h"}, {api.Span, "12725829d"},
	} {
		if v, e := value.Parse(c.kind, c.s); v.Kind != c.kind || e != api.OK {
			t.Errorf("Parse(%d, %q): %v, %d", c.kind, c.s, v, e)
		}
	}
	for _, c := range []struct {
		kind int
		s    string
	}{
		{api.Int, "-4611686018427387905"}, {api.Size, "1125899906842625"}, {api.Size, "1099511627777k"}, {api.Size, "1073741825m"},
		{api.Span, "1099511627777s"}, {api.Span, "18325193797m"}, {api.Span, "305419897h"}, {api.Span, "12725830d"},
	} {
		checkWrong(t, c.kind, c.s, api.ErrValueRange)
	}
}

// Numbers that wrap round to ones within bounds, and numbers that no word of a machine holds.
func TestParseOfGreatNumbers(t *testing.T) {
	for bits := uint(0); bits <= 300; bits++ {
		for by := int64(-2); by <= 2; by++ {
			n := new(big.Int).Lsh(big.NewInt(1), bits)
			n.Add(n, big.NewInt(by))
			if n.Sign() < 0 {
				continue
			}
			for _, kind := range numberKinds {
				for _, name := range []string{"", "k", "m", "g", "s", "h", "d"} {
					checkParse(t, kind, n.String()+name)
					checkParse(t, kind, "-"+n.String()+name)
				}
			}
		}
	}
	for _, digit := range []string{"1", "9"} {
		for _, length := range []int{18, 19, 20, 21, 39, 40, 200, 201, 400, 1 << 16, 1 << 20} {
			s := strings.Repeat(digit, length)
			checkGreat(t, s, length > 19)
		}
	}
	checkGreat(t, "1"+strings.Repeat("0", 1<<20), true)
}

// checkGreat: the form of digits is told whatever they say.
func checkGreat(t *testing.T, s string, above bool) {
	t.Helper()
	for _, kind := range numberKinds {
		checkWrong(t, kind, s+"x", api.ErrValueForm)
		checkWrong(t, kind, "0"+s, api.ErrValueForm)
		checkWrong(t, kind, s+"-", api.ErrValueForm)
	}
	checkWrong(t, api.Span, s, api.ErrValueForm)
	checkWrong(t, api.Size, "-"+s, api.ErrValueForm)
	checkWrong(t, api.Int, s+"k", api.ErrValueForm)
	if above {
		checkWrong(t, api.Int, s, api.ErrValueRange)
		checkWrong(t, api.Int, "-"+s, api.ErrValueRange)
		for _, name := range []string{"", "k", "m", "g"} {
			checkWrong(t, api.Size, s+name, api.ErrValueRange)
		}
		for _, name := range []string{"s", "m", "h", "d"} {
			checkWrong(t, api.Span, s+name, api.ErrValueRange)
		}
	}
}

// V2: Text

func TestParseOfTexts(t *testing.T) {
	for b := range 256 {
		x := string([]byte{byte(b)})
		for _, s := range []string{x, "a" + x, x + "a", "a" + x + "a", strings.Repeat("a", 199) + x, strings.Repeat("a", 200) + x, x + strings.Repeat("a", 200)} {
			checkParse(t, api.Text, s)
		}
	}
	for s, wrong := range map[string]api.Errno{"": api.OK, " ": api.OK, "~": api.OK, "a, b\"\\": api.OK, "\x1f": api.ErrValueForm, "\x7f": api.ErrValueForm, "\x80": api.ErrValueForm, "ä": api.ErrValueForm, "\ufffd": api.ErrValueForm, "a\xc1\xa1": api.ErrValueForm} {
		v, e := value.Parse(api.Text, s)
		if e != wrong || e == api.OK && v.Text != s {
			t.Errorf("Parse of the text %q: %v, %d", s, v, e)
		}
	}
}

func TestParseOfTextsOf200And201Bytes(t *testing.T) {
	for _, letter := range []string{"a", " ", "~"} {
		for length := 198; length <= 200; length++ {
			s := strings.Repeat(letter, length)
			if v, e := value.Parse(api.Text, s); !alike(v, api.Value{Kind: api.Text, Text: s}) || e != api.OK {
				t.Errorf("Parse of %d times %q: %v, %d", length, letter, v, e)
			}
		}
		for _, length := range []int{201, 202, 256, 400, 456, 65536, 1 << 22} {
			checkWrong(t, api.Text, strings.Repeat(letter, length), api.ErrValueLong)
			checkWrong(t, api.Text, strings.Repeat(letter, length)+"\n", api.ErrValueForm)
			checkWrong(t, api.Text, "\x1f"+strings.Repeat(letter, length), api.ErrValueForm)
		}
	}
}

// V2: Words

func TestParseOfShortWords(t *testing.T) {
	eachText("a9-_.,A \n\xff", 4, func(s string) { checkParse(t, api.Words, s) })
	eachText("a,", 10, func(s string) { checkParse(t, api.Words, s) })
	for b := range 256 {
		x := string([]byte{byte(b)})
		for _, s := range []string{x, "a" + x, x + "a", "a" + x + "b", "a,b" + x, "a," + x, x + ",a"} {
			checkParse(t, api.Words, s)
		}
	}
}

func TestParseOfWordsOf32And33Bytes(t *testing.T) {
	for length := 1; length <= 40; length++ {
		word := strings.Repeat("w", length)
		for _, s := range []string{word, "a," + word, word + ",a", "a," + word + ",b", word + "," + word} {
			v, e := value.Parse(api.Words, s)
			if length <= 32 && (e != api.OK || strings.Join(v.Words, ",") != s) || length > 32 && e != api.ErrValueForm {
				t.Errorf("Parse of %q: %v, %d", s, v, e)
			}
		}
	}
}

func TestParseOf16And17Words(t *testing.T) {
	for count := 1; count <= 40; count++ {
		for length := 1; length <= 33; length++ {
			words := list(count, length)
			s := strings.Join(words, ",")
			checkParse(t, api.Words, s)
			// What is no word is named ahead of how many there are.
			checkWrong(t, api.Words, s+",", api.ErrValueForm)
			checkWrong(t, api.Words, ","+s, api.ErrValueForm)
			checkWrong(t, api.Words, s+",A", api.ErrValueForm)
			checkWrong(t, api.Words, s+",,a", api.ErrValueForm)
		}
	}
	if v, e := value.Parse(api.Words, strings.Join(list(16, 1), ",")); len(v.Words) != 16 || e != api.OK {
		t.Errorf("Parse of 16 words: %d, %d", len(v.Words), e)
	}
	if v, e := value.Parse(api.Words, strings.Join(listOf(200), ",")); len(v.Words) == 0 || e != api.OK {
		t.Errorf("Parse of words of 200 bytes: %v, %d", v.Words, e)
	}
	for _, count := range []int{17, 18, 32, 33, 257, 272, 65537, 1 << 20} {
		checkWrong(t, api.Words, strings.Join(list(count, 1), ","), api.ErrValueLong)
		checkWrong(t, api.Words, strings.Join(list(count, 1), ",")+",", api.ErrValueForm)
	}
}

func TestParseOfWordsOf200And201Bytes(t *testing.T) {
	for length := 190; length <= 210; length++ {
		words := listOf(length)
		s := strings.Join(words, ",")
		if len(s) != length {
			t.Fatalf("words of %d bytes, not of %d", len(s), length)
		}
		v, e := value.Parse(api.Words, s)
		if length <= 200 && (e != api.OK || !alike(v, api.Value{Kind: api.Words, Words: words})) || length > 200 && e != api.ErrValueLong {
			t.Errorf("Parse of words of %d bytes: %v, %d", length, v, e)
		}
		checkParse(t, api.Words, s)
	}
}
