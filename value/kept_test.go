package value_test

import (
	"slices"
	"strings"
	"testing"
	"unsafe"

	"tinderbox/api"
	"tinderbox/value"
)

// R2: lists and texts that are handed in are neither written into nor kept; what comes out is new memory.

func TestListsThatAreHandedInAreNotWrittenInto(t *testing.T) {
	all := []string{"ahead", "a", "b", "room", "room"}
	before := slices.Clone(all)
	for _, v := range []api.Value{
		{Kind: api.Words, Words: all[1:3]}, {Kind: api.Words, Words: all[1:3:3]}, {Kind: api.Words, Words: all[1:1]}, {Kind: api.Int, Words: all[1:3]}, {Kind: api.Words, Words: all[1:3], Int: 1}, {Words: all[:2]},
	} {
		value.Print(v)
		value.Right(v)
		value.Same(v, v)
		value.Same(v, api.Value{Kind: api.Words, Words: all[:1]})
		value.Within(v, 0, 9)
	}
	if !slices.Equal(all, before) {
		t.Errorf("a list was written into: %q", all)
	}
}

func TestListsThatComeOutAreNewMemory(t *testing.T) {
	for range 3 {
		one, _ := value.Parse(api.Words, "a,b,c")
		two, _ := value.Parse(api.Words, "a,b,c")
		spoil(one.Words)
		if !slices.Equal(two.Words, []string{"a", "b", "c"}) {
			t.Errorf("another list was written into: %q", two.Words)
		}
		none, _ := value.Parse(api.Words, "")
		spoil(none.Words)
	}
	if v, e := value.Parse(api.Words, ""); len(v.Words) != 0 || e != api.OK {
		t.Errorf("Parse of no words: %v, %d", v, e)
	}
}

// spoil writes into a list, and into its spare room.
func spoil(words []string) {
	words = words[:cap(words)]
	for i := range words {
		words[i] = "spoilt"
	}
}

// inside: does a text stand in the memory of another one?
func inside(s, all string) bool {
	if s == "" || all == "" {
		return false
	}
	at, begin := uintptr(unsafe.Pointer(unsafe.StringData(s))), uintptr(unsafe.Pointer(unsafe.StringData(all)))
	return at >= begin && at < begin+uintptr(len(all))
}

func TestTextsThatAreHandedInAreNotKept(t *testing.T) {
	file := strings.Repeat("x", 1000) + "abc,de" + strings.Repeat("y", 1000)
	piece := file[1000:1006]
	text, _ := value.Parse(api.Text, piece)
	if text.Text != "abc,de" || inside(text.Text, file) {
		t.Errorf("Parse of a text: %q, a piece of what was handed in", text.Text)
	}
	words, _ := value.Parse(api.Words, piece)
	if !slices.Equal(words.Words, []string{"abc", "de"}) || inside(words.Words[0], file) || inside(words.Words[1], file) {
		t.Errorf("Parse of words: %q, pieces of what was handed in", words.Words)
	}
	for _, v := range []api.Value{{Kind: api.Text, Text: piece}, {Kind: api.Words, Words: []string{file[1000:1003]}}, {Kind: api.Words, Words: []string{file[1000:1003], file[1004:1006]}}} {
		if printed, e := value.Print(v); printed == "" || e != api.OK || inside(printed, file) {
			t.Errorf("Print of %v: %q, %d, a piece of what was handed in", v, printed, e)
		}
	}
}

// What one call answers does not hang on the calls ahead of it.
func TestCallsDoNotDisturbOneAnother(t *testing.T) {
	answers := func() []string {
		var out []string
		for _, kind := range append(noKinds, allKinds...) {
			for _, s := range []string{"7", "7k", "2m", "on", "off", "a,b", "", "\n", strings.Repeat("9", 40)} {
				v, _ := value.Parse(kind, s)
				text, _ := value.Print(v)
				out = append(out, text)
			}
		}
		return out
	}
	before := answers()
	callAll()
	if after := answers(); !slices.Equal(before, after) {
		t.Errorf("answers changed: %q, %q", before, after)
	}
}
