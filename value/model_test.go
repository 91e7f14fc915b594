package value_test

import (
	"math/big"
	"regexp"
	"slices"
	"strings"
	"testing"

	"tinderbox/api"
	"tinderbox/value"
)

// The chapter's words once more, by patterns and by numbers without bounds.

var formOf = map[int]*regexp.Regexp{
	api.Bool:  regexp.MustCompile(`\A(true|yes|on|false|no|off)\z`),
	api.Int:   regexp.MustCompile(`\A(0|-?[1-9][0-9]*)\z`),
	api.Size:  regexp.MustCompile(`\A(0|[1-9][0-9]*)[kmg]?\z`),
	api.Span:  regexp.MustCompile(`\A((0|[1-9][0-9]*)[smhd]|0)\z`),
	api.Text:  regexp.MustCompile(`\A[ -~]*\z`),
	api.Words: regexp.MustCompile(`\A([a-z0-9_.-]{1,32}(,[a-z0-9_.-]{1,32})*)?\z`),
}

var unitsOf = map[int]map[string]int{
	api.Size: {"": 1, "k": 1024, "m": 1024 * 1024, "g": 1024 * 1024 * 1024},
	api.Span: {"s": 1, "m": 60, "h": 60 * 60, "d": 24 * 60 * 60},
}

var boundsOf = map[int][2]int{
	api.Bool: {0, 1}, api.Int: {-4611686018427387904, 4611686018427387904}, api.Size: {0, 1125899906842624}, api.Span: {0, 1099511627776},
}

var allKinds = []int{api.Bool, api.Int, api.Size, api.Span, api.Text, api.Words}

var noKinds = []int{0, 7, -1, 8, 9, 255, 256, 257, 258, 262, 1 << 32, 1<<32 + 1, -6, -1 << 63, 1<<63 - 1}

// parsedByWords is what Parse must answer.
func parsedByWords(kind int, s string) (api.Value, api.Errno) {
	form, ok := formOf[kind]
	switch {
	case !ok:
		return api.Value{}, api.ErrArg
	case !form.MatchString(s):
		return api.Value{}, api.ErrValueForm
	}
	switch kind {
	case api.Bool:
		return api.Value{Kind: kind, Int: slices.Index([]string{"false", "true"}, boolText(s))}, api.OK
	case api.Text:
		return longByWords(s, api.Value{Kind: kind, Text: s})
	case api.Words:
		return longByWords(s, api.Value{Kind: kind, Words: wordsByWords(s)})
	}
	return numberByWords(kind, s)
}

func boolText(s string) string {
	return strings.NewReplacer("yes", "true", "on", "true", "no", "false", "off", "false").Replace(s)
}

func wordsByWords(s string) []string {
	if s == "" {
		return nil
	}
	return strings.Split(s, ",")
}

func longByWords(s string, v api.Value) (api.Value, api.Errno) {
	if len(s) > 200 || len(v.Words) > 16 {
		return api.Value{}, api.ErrValueLong
	}
	return v, api.OK
}

func numberByWords(kind int, s string) (api.Value, api.Errno) {
	digits := strings.TrimRight(s, "kmgshd")
	n, ok := new(big.Int).SetString(digits, 10)
	if !ok {
		panic("no number: " + s)
	}
	if stands := unitsOf[kind][s[len(digits):]]; stands > 0 {
		n.Mul(n, big.NewInt(int64(stands)))
	}
	bounds := boundsOf[kind]
	if n.Cmp(big.NewInt(int64(bounds[0]))) < 0 || n.Cmp(big.NewInt(int64(bounds[1]))) > 0 {
		return api.Value{}, api.ErrValueRange
	}
	return api.Value{Kind: kind, Int: int(n.Int64())}, api.OK
}

// printedByWords is the text of a value; false, if the value is not right.
func printedByWords(v api.Value) (string, bool) {
	bounds := boundsOf[v.Kind]
	isNumber := v.Kind >= api.Bool && v.Kind <= api.Span
	switch {
	case !slices.Contains(allKinds, v.Kind) || v.Int < bounds[0] || v.Int > bounds[1]:
		return "", false
	case v.Text != "" && v.Kind != api.Text || len(v.Words) > 0 && v.Kind != api.Words:
		return "", false
	case isNumber:
		return numberText(v), true
	case v.Kind == api.Text:
		return v.Text, len(v.Text) <= 200 && formOf[api.Text].MatchString(v.Text)
	}
	for _, word := range v.Words {
		if strings.Contains(word, ",") || word == "" || !formOf[api.Words].MatchString(word) {
			return "", false
		}
	}
	s := strings.Join(v.Words, ",")
	return s, len(s) <= 200 && len(v.Words) <= 16
}

func numberText(v api.Value) string {
	n := big.NewInt(int64(v.Int))
	switch {
	case v.Kind == api.Bool:
		return []string{"false", "true"}[v.Int]
	case v.Kind == api.Int || v.Kind == api.Size && v.Int == 0:
		return n.String()
	case v.Int == 0:
		return "0s"
	}
	greatest, name := 0, ""
	for unit, stands := range unitsOf[v.Kind] {
		if stands > greatest && v.Int%stands == 0 {
			greatest, name = stands, unit
		}
	}
	return n.Div(n, big.NewInt(int64(greatest))).String() + name
}

func alike(a, b api.Value) bool {
	return a.Kind == b.Kind && a.Int == b.Int && a.Text == b.Text && slices.Equal(a.Words, b.Words)
}

// checkParse holds Parse of s against the chapter's words, and what it took against V6.
func checkParse(t *testing.T, kind int, s string) {
	t.Helper()
	want, wrong := parsedByWords(kind, s)
	v, e := value.Parse(kind, s)
	if e != wrong || !alike(v, want) {
		t.Errorf("Parse(%d, %q, %d bytes): %v, %d; not %v, %d", kind, first(s), len(s), v, e, want, wrong)
	}
	if e == api.OK {
		checkRight(t, v)
		checkSaid(t, v, s)
	}
}

// checkSaid: of what Parse took the printed text is no longer, and is it itself, but of kinds that have units.
func checkSaid(t *testing.T, v api.Value, s string) {
	t.Helper()
	text, _ := value.Print(v)
	switch v.Kind {
	case api.Int, api.Text, api.Words:
		if text != s {
			t.Errorf("kind %d: %q was taken, and printed as %q", v.Kind, first(s), first(text))
		}
	}
}

// checkRight holds Right, Print and Within of a value against the chapter's words, and Parse of what is printed against V6.
func checkRight(t *testing.T, v api.Value) {
	t.Helper()
	want, right := printedByWords(v)
	if value.Right(v) != right {
		t.Errorf("Right of %v: not %t", v, right)
	}
	if !right {
		checkRefused(t, v)
		return
	}
	text, e := value.Print(v)
	if text != want || e != api.OK {
		t.Errorf("Print of %v: %q, %d; not %q", v, text, e, want)
	}
	back, e := value.Parse(v.Kind, text)
	if !alike(back, v) || !value.Same(back, v) || e != api.OK {
		t.Errorf("Parse(%d, %q), which is %v printed: %v, %d", v.Kind, text, v, back, e)
	}
}

func checkRefused(t *testing.T, v api.Value) {
	t.Helper()
	if text, e := value.Print(v); text != "" || e != api.ErrArg {
		t.Errorf("Print of %v, which is not right: %q, %d", v, first(text), e)
	}
	if value.Within(v, -1<<63, 1<<63-1) || value.Within(v, 0, 0) || value.Within(v, 1, -1) {
		t.Errorf("%v is within bounds, and not right", v)
	}
}

// first is what of a text may be printed.
func first(s string) string { return s[:min(len(s), 60)] }

// eachText calls use with each text of at most most bytes, all of them from letters.
func eachText(letters string, most int, use func(s string)) {
	var grow func(s []byte)
	grow = func(s []byte) {
		use(string(s))
		if len(s) == most {
			return
		}
		for i := range len(letters) {
			grow(append(s, letters[i]))
		}
	}
	grow(make([]byte, 0, most))
}

// list is count words of length bytes each.
func list(count, length int) []string {
	return slices.Repeat([]string{strings.Repeat("a", length)}, count)
}

// listOf is words of so many bytes together, with commas between, as few as there may be.
func listOf(length int) []string {
	var words []string
	for length > 32 {
		// A word of one byte at the least must be left.
		size := min(32, length-2)
		words = append(words, strings.Repeat("b", size))
		length -= size + 1
	}
	return append(words, strings.Repeat("c", length))
}
