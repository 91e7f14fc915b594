package glyph_test

import (
	"fmt"
	"regexp"
	"strconv"
	"strings"
	"testing"

	"tinderbox/api"
	"tinderbox/glyph"
)

// quotedForm is what the quoted texts look like: the chapter's words, as a pattern.
var quotedForm = regexp.MustCompile(`\A"([ !#-\[\]-~]|\\["\\]|\\x([01][0-9a-f]|7f|[89a-f][0-9a-f]))*"\z`)

func quotedByte(b int) string {
	switch {
	case b == 34 || b == 92:
		return "\\" + oneByte(b)
	case b >= 32 && b <= 126:
		return oneByte(b)
	}
	return fmt.Sprintf("\\x%02x", b)
}

func quotedText(s string) string {
	var out strings.Builder
	out.WriteByte('"')
	for i := range len(s) {
		out.WriteString(quotedByte(int(s[i])))
	}
	out.WriteByte('"')
	return out.String()
}

// checkQuote holds Quote against the chapter's words, and Unquote against Quote.
func checkQuote(t *testing.T, s string) {
	t.Helper()
	quoted := glyph.Quote(s)
	if want := quotedText(s); quoted != want {
		t.Errorf("Quote of %q: %s, not %s", s, quoted, want)
	}
	if text, e := glyph.Unquote(quoted); text != s || e != api.OK {
		t.Errorf("Unquote of %s: %q, %d", quoted, text, e)
	}
	for i := range len(quoted) {
		if quoted[i] < 32 || quoted[i] > 126 {
			t.Errorf("Quote of %q has the byte %d", s, quoted[i])
		}
	}
}

// checkUnquote holds Unquote against the form of quoted texts, and against the library's reading of those.
func checkUnquote(t *testing.T, s string) {
	t.Helper()
	text, e := glyph.Unquote(s)
	if !quotedForm.MatchString(s) {
		checkRefused(t, s)
		return
	}
	want, err := strconv.Unquote(s)
	if err != nil || text != want || e != api.OK {
		t.Errorf("Unquote of %q: %q, %d; the library reads %q, %v", s, text, e, want, err)
	}
	if glyph.Quote(text) != s {
		t.Errorf("Quote of Unquote of %q: %q", s, glyph.Quote(text))
	}
}

func checkRefused(t *testing.T, s string) {
	t.Helper()
	if text, e := glyph.Unquote(s); text != "" || e != api.ErrGlyphForm {
		t.Errorf("Unquote of %q: %q, %d; it is no text's quoted text", s, text, e)
	}
}

// G3: Quote

func TestQuoteExamples(t *testing.T) {
	for s, want := range map[string]string{
		"a\"\\\n": `"a\"\\\x0a"`, "": `""`, "a b": `"a b"`, " ~": `" ~"`, "\x1f\x7f": `"\x1f\x7f"`, "\x00\xff": `"\x00\xff"`, `\x41`: `"\\x41"`, `""`: `"\"\""`,
	} {
		if got := glyph.Quote(s); got != want {
			t.Errorf("Quote of %q: %s, not %s", s, got, want)
		}
	}
}

func TestQuoteOfAnyTwoBytes(t *testing.T) {
	for a := range 256 {
		checkQuote(t, oneByte(a))
		for b := range 256 {
			checkQuote(t, oneByte(a)+oneByte(b))
		}
	}
}

// Bytes that are no letters of UTF-8, and letters of several bytes, are bytes all the same.
func TestQuoteGoesByBytes(t *testing.T) {
	for _, s := range []string{"ä€𝄞", "\xff\xfe\x80", "\xc3", "\xed\xa0\x80", "\ufffd", "a\x00b"} {
		checkQuote(t, s)
	}
}

func TestQuoteOfLongTexts(t *testing.T) {
	for _, s := range []string{strings.Repeat("a", 1<<20), strings.Repeat("\"", 1<<20), strings.Repeat("\\", 1<<20), strings.Repeat("\x00", 1<<20), strings.Repeat("a\\\xff\"", 1<<18)} {
		quoted := glyph.Quote(s)
		if quoted != quotedText(s) {
			t.Errorf("Quote of %d times %q: something else", len(s), s[:1])
		}
		if text, e := glyph.Unquote(quoted); text != s || e != api.OK {
			t.Errorf("Unquote of it: %d bytes, %d", len(text), e)
		}
		checkRefusedLong(t, quoted[:len(quoted)-1])
		checkRefusedLong(t, quoted+"\"")
	}
}

func checkRefusedLong(t *testing.T, s string) {
	t.Helper()
	if text, e := glyph.Unquote(s); text != "" || e != api.ErrGlyphForm {
		t.Errorf("Unquote of %d bytes: %d bytes, %d", len(s), len(text), e)
	}
}

// G3: Unquote

func TestUnquoteExamples(t *testing.T) {
	for _, s := range []string{`"\x41"`, `"\x0A"`, `"\n"`, `"a`, `a`, `"a"b"`, ""} {
		checkRefused(t, s)
	}
	if text, e := glyph.Unquote(`""`); text != "" || e != api.OK {
		t.Errorf("Unquote of two quotes: %q, %d", text, e)
	}
	if text, e := glyph.Unquote(`"a\"\\\x0a"`); text != "a\"\\\n" || e != api.OK {
		t.Errorf("Unquote of the first example: %q, %d", text, e)
	}
}

// Each byte, escaped in each way that might be thought of: one is right.
func TestUnquoteTakesOneWayOfEachByte(t *testing.T) {
	for b := range 256 {
		right := quotedByte(b)
		ways := []string{
			oneByte(b), "\\" + oneByte(b), fmt.Sprintf("\\x%02x", b), fmt.Sprintf("\\x%02X", b), fmt.Sprintf("\\X%02x", b),
			fmt.Sprintf("\\x%x", b), fmt.Sprintf("\\x%03x", b), fmt.Sprintf("\\%03o", b), fmt.Sprintf("\\u%04x", b),
		}
		for _, way := range ways {
			for _, ahead := range []string{"", "b", "\\\\", "\\x00"} {
				checkUnquote(t, `"`+ahead+way+`"`)
				checkUnquote(t, `"`+ahead+way+`b"`)
			}
		}
		if text, e := glyph.Unquote(`"` + right + `"`); text != oneByte(b) || e != api.OK {
			t.Errorf("Unquote of %s: %q, %d", right, text, e)
		}
	}
}

func TestUnquoteRefusesWhatIsCut(t *testing.T) {
	for _, s := range []string{"a", "a\"\\\n", "\x00\x01", "\\\\", "\"", "\\", "\xff", "abc\x7f"} {
		quoted := glyph.Quote(s)
		for length := range len(quoted) {
			// A piece may be a quoted text of its own: only the form tells.
			checkUnquote(t, quoted[:length])
			checkUnquote(t, quoted[len(quoted)-length:])
			checkUnquote(t, quoted[:length]+`"`)
		}
		checkRefused(t, quoted[:len(quoted)-1])
		checkRefused(t, quoted[1:])
	}
}

func TestUnquoteRefusesBytesBehindTheClosingQuote(t *testing.T) {
	for b := range 256 {
		checkRefused(t, `"a"`+oneByte(b))
		checkRefused(t, `""`+oneByte(b))
		checkRefused(t, `"a"`+oneByte(b)+`"`)
		checkRefused(t, oneByte(b)+`"a"`)
	}
}

func TestUnquoteRefusesDigitsThatAreNone(t *testing.T) {
	for b := range 256 {
		for _, s := range []string{`"\x0` + oneByte(b) + `"`, `"\x` + oneByte(b) + `0"`, `"\x` + oneByte(b) + `f"`, `"\x8` + oneByte(b) + `b"`, `"\x` + oneByte(b) + `"`} {
			checkUnquote(t, s)
		}
	}
}

// R1: all texts of few bytes of which quoted texts are made, and of some that are near.
func TestUnquoteOfShortTexts(t *testing.T) {
	eachText("\"\\x07fA", 7, func(s string) {
		checkUnquote(t, s)
	})
	eachText("\"\\x0128ag\n ~\x7f\xff", 4, func(s string) {
		checkUnquote(t, s)
		checkUnquote(t, `"`+s+`"`)
		checkUnquote(t, `"\`+s+`"`)
		checkUnquote(t, `"\x`+s+`"`)
	})
}

// G4

func TestNoTwoTextsAreQuotedAlike(t *testing.T) {
	seen := map[string]string{}
	eachText("\"\\x0a\n\xff", 5, func(s string) {
		quoted := glyph.Quote(s)
		if first, found := seen[quoted]; found {
			t.Errorf("%q and %q are both quoted %s", first, s, quoted)
		}
		seen[quoted] = s
		if text, e := glyph.Unquote(quoted); text != s || e != api.OK {
			t.Errorf("Unquote of %s: %q, %d", quoted, text, e)
		}
	})
}

func FuzzQuotes(f *testing.F) {
	for _, s := range []string{"", "a", `""`, `"\x0a"`, `"\x41"`, "a\"\\\n", "\x00\xff", `"\`, `"a"b"`} {
		f.Add(s)
	}
	f.Fuzz(func(t *testing.T, s string) {
		checkQuote(t, s)
		checkUnquote(t, s)
		checkUnquote(t, `"`+s+`"`)
	})
}
