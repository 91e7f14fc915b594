package value_test

import (
	"slices"
	"strconv"
	"strings"
	"testing"

	"tinderbox/api"
	"tinderbox/value"
)

// V6, P7

// numbers gives the same numbers in every run.
type numbers uint64

func (x *numbers) next() int {
	*x = *x*6364136223846793005 + 1442695040888963407
	return int(*x >> 33)
}

func (x *numbers) text(letters string, most int) string {
	b := make([]byte, x.next()%(most+1))
	for i := range b {
		b[i] = letters[x.next()%len(letters)]
	}
	return string(b)
}

// value is one of any kind; not all are right.
func (x *numbers) value() api.Value {
	v := api.Value{Kind: allKinds[x.next()%len(allKinds)]}
	n := (x.next()<<31 | x.next()) >> (x.next() % 62)
	switch v.Kind {
	case api.Bool:
		v.Int = n % 3
	case api.Int:
		v.Int = n * (x.next()%3 - 1)
	case api.Size, api.Span:
		v.Int = n * []int{1, 60, 3600, 1 << 10, 1 << 20}[x.next()%5]
	case api.Text:
		v.Text = x.text("az09 ~!,.-\"", 210)
	case api.Words:
		for range x.next() % 18 {
			v.Words = append(v.Words, x.text("az09_.-", 1+x.next()%33))
		}
	}
	return v
}

func TestWhatIsPrintedIsTaken(t *testing.T) {
	x := numbers(1)
	count := 0
	for range 100_000 {
		v := x.value()
		checkRight(t, v)
		if value.Right(v) {
			count++
		}
	}
	if count < 20_000 {
		t.Errorf("only %d were right", count)
	}
}

func TestWhatIsTakenIsPrinted(t *testing.T) {
	x := numbers(2)
	count := 0
	for range 100_000 {
		for _, kind := range allKinds {
			s := x.text("0123456789", 17) + x.text("-kmgshd,a", 2)
			if x.next()%2 == 0 {
				s = x.text("abc,", 60)
			}
			checkParse(t, kind, s)
			if _, e := value.Parse(kind, s); e == api.OK {
				count++
			}
		}
	}
	if count < 100_000 {
		t.Errorf("only %d were taken", count)
	}
}

// Two right values of one kind have the same printed text just if they are the same.
func TestNoTwoValuesArePrintedAlike(t *testing.T) {
	byText := map[string]api.Value{}
	check := func(v api.Value) {
		text, e := value.Print(v)
		if e != api.OK {
			return
		}
		kindAndText := strconv.Itoa(v.Kind) + " " + text
		other, ok := byText[kindAndText]
		if ok != value.Same(other, v) {
			t.Errorf("%v and %v are both printed as %q", v, other, text)
		}
		byText[kindAndText] = v
	}
	for n := -100; n <= 400_000; n += 1 + n/1000 {
		for _, kind := range []int{api.Bool, api.Int, api.Size, api.Span} {
			check(api.Value{Kind: kind, Int: n})
			check(api.Value{Kind: kind, Int: n << 10})
			check(api.Value{Kind: kind, Int: n * 3600})
		}
	}
	eachText("a,_", 6, func(s string) {
		check(api.Value{Kind: api.Text, Text: s})
		check(api.Value{Kind: api.Words, Words: []string{s}})
		check(api.Value{Kind: api.Words, Words: strings.Split(s, "_")})
		check(api.Value{Kind: api.Words, Words: strings.Split(s, ",")})
	})
	if len(byText) < 5000 {
		t.Errorf("only %d texts", len(byText))
	}
}

// Each unit says what its count says; so a number is taken with every unit of which it is a multiple.
func TestNumbersInEachUnit(t *testing.T) {
	for _, kind := range []int{api.Size, api.Span} {
		for _, name := range []string{"", "k", "m", "g", "s", "h", "d"} {
			stands := value.Unit(kind, name)
			for n := range 5000 {
				want := api.Value{Kind: kind, Int: n * stands}
				v, e := value.Parse(kind, strconv.Itoa(n)+name)
				if stands > 0 && (e != api.OK || !value.Same(v, want)) || stands == 0 && e == api.OK && n > 0 {
					t.Errorf("Parse(%d, %d%s): %v, %d", kind, n, name, v, e)
				}
			}
		}
	}
}

func TestTheSixKindsAreAllThatAreTaken(t *testing.T) {
	for kind := -1000; kind <= 1000; kind++ {
		_, e := value.Parse(kind, "0")
		if slices.Contains(allKinds, kind) == (e == api.ErrArg) {
			t.Errorf("Parse(%d, 0): %d", kind, e)
		}
	}
}
