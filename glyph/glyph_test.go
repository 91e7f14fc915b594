package glyph_test

import (
	"math"
	"regexp"
	"strings"
	"sync"
	"testing"

	"tinderbox/api"
	"tinderbox/glyph"
)

// What the tables said ahead of main.
var (
	earlyClasses = allClasses()
	earlyCount   = glyph.Count(api.GlyphSign)
	earlyName    = glyph.IsName("net.port")
	earlyQuote   = glyph.Quote("a\n")
)

func allClasses() [256]int {
	var classes [256]int
	for b := range classes {
		classes[b] = glyph.Class(b)
	}
	return classes
}

// classByTable is the chapter's table, told by texts and bounds.
func classByTable(b int) int {
	switch {
	case b < 0 || b > 255:
		return api.GlyphOther
	case strings.IndexByte("abcdefghijklmnopqrstuvwxyz", byte(b)) >= 0:
		return api.GlyphSmall
	case strings.IndexByte("ABCDEFGHIJKLMNOPQRSTUVWXYZ", byte(b)) >= 0:
		return api.GlyphGreat
	case strings.IndexByte("0123456789", byte(b)) >= 0:
		return api.GlyphDigit
	case b == 32 || b == 9:
		return api.GlyphBlank
	case b == 10 || b == 13:
		return api.GlyphSignal
	case b >= 33 && b <= 126:
		return api.GlyphSign
	}
	return api.GlyphOther
}

// eachText calls use with each text of at most most bytes, all of them from letters.
func eachText(letters string, most int, use func(s string)) {
	var grow func(s []byte)
	grow = func(s []byte) {
		use(string(s))
		if len(s) == most {
			return
		}
		for i := range len(letters) {
			grow(append(s, letters[i]))
		}
	}
	grow(make([]byte, 0, most))
}

func oneByte(b int) string { return string([]byte{byte(b)}) }

// G1

func TestClassExamples(t *testing.T) {
	for b, want := range map[int]int{
		97: api.GlyphSmall, 9: api.GlyphBlank, 10: api.GlyphSignal,
		11: api.GlyphOther, 127: api.GlyphOther, -1: api.GlyphOther, 256: api.GlyphOther, 353: api.GlyphOther,
	} {
		if got := glyph.Class(b); got != want {
			t.Errorf("Class(%d): %d, not %d", b, got, want)
		}
	}
}

func TestClassOfEachByteAndOfNone(t *testing.T) {
	for b := -2000; b <= 2000; b++ {
		if got, want := glyph.Class(b), classByTable(b); got != want {
			t.Errorf("Class(%d): %d, not %d", b, got, want)
		}
	}
	for _, near := range []int{math.MinInt, math.MinInt32, math.MinInt16, math.MaxInt8, math.MaxInt16, math.MaxInt32, math.MaxInt - 300, -1 << 32, 1 << 32, 1 << 62} {
		for by := range 300 {
			if b := near + by; glyph.Class(b) != classByTable(b) {
				t.Errorf("Class(%d): %d, not %d", b, glyph.Class(b), classByTable(b))
			}
		}
	}
}

func TestCountOfEachClassAndOfNone(t *testing.T) {
	for class, want := range map[int]int{
		api.GlyphOther: 158, api.GlyphSmall: 26, api.GlyphGreat: 26, api.GlyphDigit: 10, api.GlyphBlank: 2, api.GlyphSign: 32, api.GlyphSignal: 2,
		7: 0, 8: 0, -1: 0, -7: 0, 255: 0, 256: 0, 257: 0, 1 << 32: 0, math.MaxInt: 0, math.MinInt: 0,
	} {
		if got := glyph.Count(class); got != want {
			t.Errorf("Count(%d): %d, not %d", class, got, want)
		}
	}
}

// G1, P1, R2, R3: the same at start-up, and at every time behind that, whoever else calls.
func TestWhatStandsIsTheSameAtEveryTime(t *testing.T) {
	for b, got := range earlyClasses {
		if want := classByTable(b); got != want {
			t.Errorf("at start-up Class(%d) was %d, not %d", b, got, want)
		}
	}
	if earlyCount != 32 || !earlyName || earlyQuote != `"a\x0a"` {
		t.Errorf("at start-up: %d signs, a name: %t, quoted: %s", earlyCount, earlyName, earlyQuote)
	}
	var group sync.WaitGroup
	for range 8 {
		group.Go(func() {
			for b := range 256 {
				s := oneByte(b)
				glyph.Fold(s)
				glyph.IsName(s)
				glyph.IsWord(s)
				glyph.Unquote(glyph.Quote(s))
				if glyph.Count(api.GlyphOther) != 158 {
					t.Errorf("behind byte %d: %d others", b, glyph.Count(api.GlyphOther))
				}
			}
			if got := allClasses(); got != earlyClasses {
				t.Errorf("other classes than at start-up: %v", got)
			}
		})
	}
	group.Wait()
}

// G2

var (
	nameForm = regexp.MustCompile(`\A[a-z][a-z0-9]*(\.[a-z][a-z0-9]*){0,2}\z`)
	wordForm = regexp.MustCompile(`\A[a-z0-9_.-]{1,32}\z`)
)

func checkName(t *testing.T, s string) {
	t.Helper()
	if want := len(s) <= 32 && nameForm.MatchString(s); glyph.IsName(s) != want {
		t.Errorf("IsName of %q: not %t", s, want)
	}
}

func checkWord(t *testing.T, s string) {
	t.Helper()
	if want := wordForm.MatchString(s); glyph.IsWord(s) != want {
		t.Errorf("IsWord of %q: not %t", s, want)
	}
}

func TestNameExamples(t *testing.T) {
	for _, s := range []string{"a", "net.port", "a1.b.c2"} {
		if !glyph.IsName(s) {
			t.Errorf("%q is a name", s)
		}
	}
	for _, s := range []string{"", "a.", ".a", "a..b", "1a", "a.1", "A", "a_b", "a.b.c.d", strings.Repeat("a", 33)} {
		if glyph.IsName(s) {
			t.Errorf("%q is no name", s)
		}
	}
}

func TestNamesOfOneToFiveParts(t *testing.T) {
	for parts := 1; parts <= 5; parts++ {
		for _, part := range []string{"a", "z9", "abc0", ""} {
			s := strings.Repeat(part+".", parts-1) + part
			if want := parts <= 3 && part != ""; glyph.IsName(s) != want {
				t.Errorf("IsName of %q: not %t", s, want)
			}
		}
	}
	for _, s := range []string{".", "..", "...", "a.b.", ".b.c", "a..c", "a.b.c.", ".a.b.c", "a.b..d", "a...b"} {
		if glyph.IsName(s) {
			t.Errorf("%q is no name: a part is empty", s)
		}
	}
}

func TestNamesAndWordsOf32And33Bytes(t *testing.T) {
	for _, s := range []string{
		strings.Repeat("a", 32), "a" + strings.Repeat("9", 31), "a." + strings.Repeat("b", 30), strings.Repeat("b", 30) + ".c",
		"a.b." + strings.Repeat("c", 28), strings.Repeat("a", 10) + "." + strings.Repeat("b", 10) + "." + strings.Repeat("c", 10),
	} {
		if len(s) != 32 || !glyph.IsName(s) || !glyph.IsWord(s) {
			t.Errorf("%q, %d bytes: is a name and a word", s, len(s))
		}
		if glyph.IsName(s+"a") || glyph.IsWord(s+"a") {
			t.Errorf("%q, 33 bytes: is no name and no word", s+"a")
		}
		if glyph.IsName(s[:31]+".") || glyph.IsName("."+s[1:]) || glyph.IsName(s[:31]+"A") {
			t.Errorf("%q with another byte at an end: is no name", s)
		}
	}
	for _, b := range []string{"0", "-", "_", "."} {
		if !glyph.IsWord(strings.Repeat(b, 32)) || glyph.IsWord(strings.Repeat(b, 33)) {
			t.Errorf("32 times %q is a word, 33 times is none", b)
		}
	}
	for _, length := range []int{64, 256, 256 + 32, 65536 + 8, 1 << 22} {
		if s := strings.Repeat("a", length); glyph.IsName(s) || glyph.IsWord(s) {
			t.Errorf("%d letters: are no name and no word", length)
		}
	}
}

func TestNamesAndWordsOfAnyTwoBytes(t *testing.T) {
	for a := range 256 {
		checkName(t, oneByte(a))
		checkWord(t, oneByte(a))
		for b := range 256 {
			s := oneByte(a) + oneByte(b)
			checkName(t, s)
			checkWord(t, s)
			checkName(t, "a"+s)
			checkWord(t, s+"a")
		}
	}
}

func TestNamesAndWordsOfUpTo8Bytes(t *testing.T) {
	eachText("a1.-", 8, func(s string) {
		checkName(t, s)
		checkWord(t, s)
	})
	eachText("z0_.AZ @`{/:", 4, func(s string) {
		checkName(t, s)
		checkWord(t, s)
	})
}

func TestWords(t *testing.T) {
	for _, s := range []string{"1-_.", "a", "0", "-", "_", ".", "..", "abcdefghijklmnopqrstuvwxyz", "0123456789"} {
		if !glyph.IsWord(s) {
			t.Errorf("%q is a word", s)
		}
	}
	for _, s := range []string{"", " ", "a b", "a,b", "A", "aB", "a\n", "\x00", "a\x00", "ä", "a+", "a/b", "a\xff"} {
		if glyph.IsWord(s) {
			t.Errorf("%q is no word", s)
		}
	}
}

// G3: Fold

func TestFoldOfEachByte(t *testing.T) {
	for b := range 256 {
		want := b
		if b >= 65 && b <= 90 {
			want = b + 32
		}
		if got := glyph.Fold(oneByte(b)); got != oneByte(want) {
			t.Errorf("Fold of byte %d: %q", b, got)
		}
	}
}

func TestFoldGoesByBytes(t *testing.T) {
	for s, want := range map[string]string{
		"": "", "Net.PORT": "net.port", "aBZ@[`{": "abz@[`{", "A\x00Z\xff\xc0": "a\x00z\xff\xc0", "ÄK": "Äk", "\xc3A": "\xc3a", "\u212a": "\u212a",
	} {
		if got := glyph.Fold(s); got != want {
			t.Errorf("Fold of %q: %q, not %q", s, got, want)
		}
	}
	if got := glyph.Fold(strings.Repeat("aB9", 1<<20)); got != strings.Repeat("ab9", 1<<20) {
		t.Errorf("Fold of a long text: %d bytes of something else", len(got))
	}
}

// G4

func TestCountsAre256Together(t *testing.T) {
	together := 0
	for class := -300; class <= 300; class++ {
		together += glyph.Count(class)
	}
	if together != 256 {
		t.Errorf("the counts are %d together", together)
	}
}

func TestEachNameIsAWord(t *testing.T) {
	names := 0
	eachText("a1.-A", 6, func(s string) {
		if glyph.IsName(s) {
			names++
			if !glyph.IsWord(s) {
				t.Errorf("%q is a name, and no word", s)
			}
		}
	})
	if names == 0 {
		t.Error("no name among the texts")
	}
}

func TestFoldOfFold(t *testing.T) {
	eachText("aZ@[\xff", 5, func(s string) {
		once := glyph.Fold(s)
		if glyph.Fold(once) != once {
			t.Errorf("Fold of Fold of %q: %q", s, glyph.Fold(once))
		}
		if len(once) != len(s) || strings.ContainsAny(once, "AZ") {
			t.Errorf("Fold of %q: %q", s, once)
		}
	})
}
