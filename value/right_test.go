package value_test

import (
	"math"
	"slices"
	"strings"
	"testing"

	"tinderbox/api"
	"tinderbox/value"
)

// V3

func TestRightOfEachKindAndOfNone(t *testing.T) {
	for _, kind := range append(noKinds, allKinds...) {
		for _, v := range []api.Value{{Kind: kind}, {Kind: kind, Int: 1}, {Kind: kind, Text: "a"}, {Kind: kind, Words: list(1, 1)}, {Kind: kind, Words: []string{}}, {Kind: kind, Words: []string{""}}} {
			checkRight(t, v)
		}
		if right := value.Right(api.Value{Kind: kind}); right != slices.Contains(allKinds, kind) {
			t.Errorf("Right of nothing of kind %d: %t", kind, right)
		}
	}
}

// A value of a kind that has something in a field of another kind is not right, whatever it is.
func TestRightOfEachFieldThatIsNotTheKinds(t *testing.T) {
	for _, v := range []api.Value{
		{Kind: api.Bool, Int: 1, Text: "a"}, {Kind: api.Bool, Int: 1, Words: list(1, 1)}, {Kind: api.Bool, Int: 1, Words: []string{""}},
		{Kind: api.Int, Text: "0"}, {Kind: api.Int, Words: list(1, 1)}, {Kind: api.Int, Text: "\n"},
		{Kind: api.Size, Text: "0"}, {Kind: api.Size, Words: list(1, 1)}, {Kind: api.Span, Text: "0s"}, {Kind: api.Span, Words: list(1, 1)},
		{Kind: api.Text, Int: 1}, {Kind: api.Text, Int: -1}, {Kind: api.Text, Text: "a", Words: []string{""}}, {Kind: api.Text, Text: "a", Int: math.MinInt},
		{Kind: api.Words, Int: 1}, {Kind: api.Words, Int: -1}, {Kind: api.Words, Text: "a"}, {Kind: api.Words, Words: list(2, 2), Text: "aa,aa"}, {Kind: api.Words, Words: list(2, 2), Int: 2},
	} {
		if value.Right(v) {
			t.Errorf("%v is right", v)
		}
		checkRight(t, v)
	}
}

func TestRightAboutTheBounds(t *testing.T) {
	for kind, bounds := range boundsOf {
		for _, bound := range bounds {
			for by := -70; by <= 70; by++ {
				n := bound + by
				checkRight(t, api.Value{Kind: kind, Int: n})
				if right := value.Right(api.Value{Kind: kind, Int: n}); right != (bounds[0] <= n && n <= bounds[1]) {
					t.Errorf("Right of %d of kind %d: %t", n, kind, right)
				}
			}
		}
		for _, n := range []int{math.MinInt, math.MinInt + 1, math.MaxInt - 1, math.MaxInt, math.MinInt32, -1 << 50, -1 << 40, 1<<62 + 1, 1<<50 + 1, 1<<40 + 1} {
			checkRight(t, api.Value{Kind: kind, Int: n})
		}
	}
}

func TestRightOfTexts(t *testing.T) {
	for b := range 256 {
		for _, length := range []int{0, 1, 199, 200, 201} {
			rest := strings.Repeat("a", length)
			x := string([]byte{byte(b)})
			checkRight(t, api.Value{Kind: api.Text, Text: x + rest})
			checkRight(t, api.Value{Kind: api.Text, Text: rest + x})
		}
	}
	for text, right := range map[string]bool{"": true, " ~": true, "\x1f": false, "\x7f": false, "ä": false, strings.Repeat("a", 200): true, strings.Repeat("a", 201): false, strings.Repeat("a", 456): false} {
		if value.Right(api.Value{Kind: api.Text, Text: text}) != right {
			t.Errorf("Right of %q: not %t", first(text), right)
		}
	}
}

func TestRightOfWords(t *testing.T) {
	eachText("a_,A", 4, func(s string) {
		for _, words := range [][]string{{s}, {"b", s}, {s, "b"}, {s, s}, slices.Repeat([]string{s}, 16), slices.Repeat([]string{s}, 17), {"b", s, "b", "b"}} {
			checkRight(t, api.Value{Kind: api.Words, Words: words})
		}
	})
	for count := range 20 {
		for length := range 35 {
			checkRight(t, api.Value{Kind: api.Words, Words: list(count, length)})
		}
	}
	for length := 1; length <= 260; length++ {
		words := listOf(length)
		if right := value.Right(api.Value{Kind: api.Words, Words: words}); right != (length <= 200) {
			t.Errorf("Right of words of %d bytes: %t", length, right)
		}
	}
	for _, words := range [][]string{{""}, {"a", ""}, {"a,b"}, {"a b"}, {"\n"}, {strings.Repeat("a", 33)}, list(17, 1), list(272, 1), list(1<<16, 1), {strings.Repeat("a", 1<<20)}} {
		if value.Right(api.Value{Kind: api.Words, Words: words}) {
			t.Errorf("%d words beginning with %q are right", len(words), first(words[0]))
		}
	}
}

func TestPrintOfNumbers(t *testing.T) {
	for _, kind := range numberKinds {
		for n := -3; n <= 200_000; n++ {
			checkRight(t, api.Value{Kind: kind, Int: n})
		}
		for bits := range 63 {
			for by := -70; by <= 70; by++ {
				checkRight(t, api.Value{Kind: kind, Int: 1<<bits + by})
				checkRight(t, api.Value{Kind: kind, Int: -1<<bits + by})
			}
		}
		for _, stands := range []int{1 << 10, 1 << 20, 1 << 30, 60, 3600, 86400} {
			for times := range 3000 {
				checkRight(t, api.Value{Kind: kind, Int: times * stands})
				checkRight(t, api.Value{Kind: kind, Int: times * stands * 7})
			}
		}
	}
}

// A number is printed with the greatest unit of which it is a multiple, be another one shorter.
func TestPrintExamplesOfUnits(t *testing.T) {
	for _, c := range []struct {
		kind, n int
		want    string
	}{
		{api.Size, 0, "0"}, {api.Size, 1, "1"}, {api.Size, 1023, "1023"}, {api.Size, 1024, "1k"}, {api.Size, 1025, "1025"},
		{api.Size, 1025 << 10, "1025k"}, {api.Size, 1 << 20, "1m"}, {api.Size, 3 << 30, "3g"}, {api.Size, 1048575 << 20, "1048575m"},
		{api.Span, 0, "0s"}, {api.Span, 59, "59s"}, {api.Span, 60, "1m"}, {api.Span, 61, "61s"}, {api.Span, 5400, "90m"},
		{api.Span, 3600, "1h"}, {api.Span, 90000, "25h"}, {api.Span, 86400, "1d"}, {api.Span, 172800, "2d"},
	} {
		v := api.Value{Kind: c.kind, Int: c.n}
		if got, e := value.Print(v); got != c.want || e != api.OK {
			t.Errorf("Print of %v: %q, %d; not %q", v, got, e, c.want)
		}
	}
}

// V4

// unlike are values no two of which are the same; not all are right.
func unlike() []api.Value {
	values := []api.Value{
		{}, {Int: 1}, {Int: -1}, {Text: "a"}, {Text: "A"}, {Text: "a\x00"}, {Words: []string{""}}, {Words: []string{"", ""}}, {Words: []string{"a"}}, {Words: []string{"a", "b"}}, {Words: []string{"b", "a"}}, {Words: []string{"a,b"}}, {Words: []string{"ab"}}, {Words: []string{"a", "b", ""}},
		{Text: "a", Int: 1}, {Text: "a", Words: []string{"a"}}, {Int: 1, Words: []string{"a"}}, {Int: 1, Text: "a", Words: []string{"a"}}, {Int: math.MaxInt}, {Int: math.MinInt},
	}
	var out []api.Value
	for _, kind := range append(noKinds, allKinds...) {
		for _, v := range values {
			v.Kind = kind
			out = append(out, v)
		}
	}
	return out
}

func TestSameOfAnyTwo(t *testing.T) {
	all := unlike()
	for i, a := range all {
		for j, b := range all {
			b.Words = slices.Clone(b.Words)
			if value.Same(a, b) != (i == j) {
				t.Errorf("Same of %v and %v: not %t", a, b, i == j)
			}
		}
	}
}

func TestSameOfListsWithoutWords(t *testing.T) {
	for _, kind := range append(noKinds, allKinds...) {
		a, b := api.Value{Kind: kind}, api.Value{Kind: kind, Words: make([]string, 0, 4)}
		if !value.Same(a, b) || !value.Same(b, a) {
			t.Errorf("kind %d: a list without words is not the same as none", kind)
		}
	}
}

// V5

func TestWithin(t *testing.T) {
	bounds := []int{math.MinInt, math.MinInt + 1, -1<<62 - 1, -1 << 62, -8, -7, -6, -1, 0, 1, 2, 3, 4, 5, 6, 15, 16, 17, 1 << 40, 1 << 50, 1 << 62, math.MaxInt}
	for _, v := range valuesToBound() {
		counted := v.Int
		if v.Kind == api.Words {
			counted = len(v.Words)
		}
		for _, least := range bounds {
			for _, most := range bounds {
				want := least <= counted && counted <= most || v.Kind == api.Bool || v.Kind == api.Text
				if value.Within(v, least, most) != want {
					t.Errorf("Within of %v, %d to %d: not %t", v, least, most, want)
				}
			}
		}
	}
}

func valuesToBound() []api.Value {
	values := []api.Value{{Kind: api.Bool}, {Kind: api.Bool, Int: 1}, {Kind: api.Text}, {Kind: api.Text, Text: "abcdef"}, {Kind: api.Int, Int: -7}, {Kind: api.Int, Int: -1 << 62}, {Kind: api.Int, Int: 1 << 62}, {Kind: api.Size, Int: 1 << 50}, {Kind: api.Span, Int: 1 << 40}}
	for n := range 6 {
		values = append(values, api.Value{Kind: api.Int, Int: n}, api.Value{Kind: api.Size, Int: n}, api.Value{Kind: api.Span, Int: n})
	}
	for count := range 17 {
		values = append(values, api.Value{Kind: api.Words, Words: list(count, 2)})
	}
	return values
}

func TestWithinExamples(t *testing.T) {
	words, _ := value.Parse(api.Words, "log,net")
	if value.Within(words, 0, 1) || !value.Within(words, 0, 2) || !value.Within(words, 2, 2) || value.Within(words, 3, 9) {
		t.Error("two words are not 0 to 1, and are 0 to 2")
	}
	five := api.Value{Kind: api.Int, Int: 5}
	if !value.Within(five, 5, 5) || value.Within(five, 6, 4) || value.Within(five, 6, 5) || value.Within(five, 5, 4) {
		t.Error("five is from 5 to 5, and not within bounds of which the least is above the most")
	}
	if !value.Within(api.Value{Kind: api.Text, Text: "x"}, 9, 0) || !value.Within(api.Value{Kind: api.Bool, Int: 1}, 9, 0) {
		t.Error("a Text and a Bool are within all bounds")
	}
}

func TestWithinOfWhatIsNotRight(t *testing.T) {
	for _, v := range unlike() {
		if !value.Right(v) {
			checkRefused(t, v)
		}
	}
	for _, v := range []api.Value{{Kind: api.Bool, Int: 2}, {Kind: api.Text, Text: "\n"}, {Kind: api.Text, Int: 1}, {Kind: api.Size, Int: -1}, {Kind: api.Words, Words: list(17, 1)}, {Kind: api.Words, Words: []string{"A"}}, {Kind: api.Int, Int: 5, Text: "5"}} {
		checkRefused(t, v)
	}
}
