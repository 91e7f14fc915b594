package value_test

import (
	"sync"
	"testing"

	"tinderbox/api"
	"tinderbox/value"
)

// What the units stood for, and what was read by them, ahead of main.
var (
	earlyUnits    = allUnits()
	earlyValue, _ = value.Parse(api.Span, "2h")
	earlyText, _  = value.Print(api.Value{Kind: api.Size, Int: 3 << 20})
)

// allUnits is what each text of one byte stands for as a unit of each kind, and the empty text behind them.
func allUnits() [7][257]int {
	var all [7][257]int
	for kind := range all {
		for b := range all[kind] {
			all[kind][b] = value.Unit(kind, unitText(b))
		}
	}
	return all
}

func unitText(b int) string {
	if b == 256 {
		return ""
	}
	return string([]byte{byte(b)})
}

// V1

func TestUnitExamples(t *testing.T) {
	for _, c := range []struct {
		kind int
		s    string
		want int
	}{
		{api.Span, "d", 86400}, {api.Span, "", 0}, {api.Size, "", 1}, {api.Int, "", 0},
		{api.Size, "k", 1024}, {api.Size, "m", 1048576}, {api.Size, "g", 1073741824},
		{api.Span, "s", 1}, {api.Span, "m", 60}, {api.Span, "h", 3600},
	} {
		if got := value.Unit(c.kind, c.s); got != c.want {
			t.Errorf("Unit(%d, %q): %d, not %d", c.kind, c.s, got, c.want)
		}
	}
}

func TestUnitOfEachKindAndOfNone(t *testing.T) {
	for _, kind := range append(noKinds, allKinds...) {
		eachText("kmgshdKMGSHD01 t\x00\xff", 2, func(s string) {
			if got, want := value.Unit(kind, s), unitsOf[kind][s]; got != want {
				t.Errorf("Unit(%d, %q): %d, not %d", kind, s, got, want)
			}
		})
	}
}

// P1, R2, R3: the same at start-up, and behind all other calls, whoever else makes them.
func TestUnitsAreTheSameAtEveryTime(t *testing.T) {
	for kind := range earlyUnits {
		for b, got := range earlyUnits[kind] {
			if want := unitsOf[kind][unitText(b)]; got != want {
				t.Errorf("at start-up the unit %q of kind %d stood for %d, not %d", unitText(b), kind, got, want)
			}
		}
	}
	if !alike(earlyValue, api.Value{Kind: api.Span, Int: 7200}) || earlyText != "3m" {
		t.Errorf("at start-up: %v, %q", earlyValue, earlyText)
	}
	var group sync.WaitGroup
	for range 8 {
		group.Go(func() {
			callAll()
			if got := allUnits(); got != earlyUnits {
				t.Errorf("other units than at start-up: %v", got)
			}
		})
	}
	group.Wait()
}

// callAll makes calls of all kinds, those that are refused too.
func callAll() {
	for kind := -1; kind < 9; kind++ {
		for _, s := range []string{"", "0", "1", "7k", "8m", "9g", "3s", "4h", "5d", "-6", "on", "a,b", "a b", "99999999999999999999", "\n"} {
			v, _ := value.Parse(kind, s)
			value.Print(v)
			value.Right(v)
			value.Same(v, api.Value{Kind: kind, Text: s})
			value.Within(v, 0, 1)
			value.Unit(kind, s)
		}
	}
}
