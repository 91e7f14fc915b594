package step_test

import (
	"math/big"
	"slices"
	"strconv"
	"strings"
	"sync"
	"testing"

	"tinderbox/api"
	"tinderbox/step"
)

// M1: Functions; P1

// What stood ahead of main.
var (
	earlyNames = step.Functions()
	earlyCalls = allCalls()
)

// notFunctions are names that are none.
var notFunctions = []string{"", "none", "Double", "DOUBLE", "Upper", "UPPER", "Lower", "Reverse", "Trim", "double ", " double", "doubl", "doubles", "title", "id", "upper,lower", "up", "\x00", "trim\n", strings.Repeat("upper", 1<<18)}

// called is what a call told.
type called struct {
	made  string
	errno api.Errno
}

// allCalls is what each function, and some names that are none, make of some values.
func allCalls() []called {
	var all []called
	for _, name := range append(slices.Clone(notFunctions), theFunctions...) {
		for _, value := range someValues() {
			made, e := step.Call(name, value)
			all = append(all, called{made, e})
		}
	}
	return all
}

func someValues() []string {
	values := []string{"", "0", "7", "07", "2147483648", "2147483649", " a B ", "\t\n", long(200), long(201), strings.Repeat("9", 201)}
	for b := range 256 {
		values = append(values, string([]byte{byte(b)}), string([]byte{'a', byte(b), 'Z'}))
	}
	return values
}

func wantFunctions(t *testing.T, names []string) {
	t.Helper()
	if !slices.Equal(names, []string{"double", "lower", "reverse", "trim", "upper"}) {
		t.Errorf("the functions: %q", names)
	}
}

func TestFunctionsAreTheTable(t *testing.T) {
	for range 2 {
		wantFunctions(t, step.Functions())
	}
	for _, name := range step.Functions() {
		if _, e := step.Call(name, "1"); e != api.OK || !step.Right(mapBy("a", name)) {
			t.Errorf("%s is no function: %d", name, e)
		}
	}
}

func TestFunctionsAtStartUp(t *testing.T) {
	wantFunctions(t, earlyNames)
	if !slices.Equal(earlyCalls, allCalls()) {
		t.Errorf("at start-up: %+v", earlyCalls)
	}
	at := 0
	for _, name := range append(slices.Clone(notFunctions), theFunctions...) {
		for _, value := range someValues() {
			if made, e := callByWords(name, value); earlyCalls[at] != (called{made, e}) {
				t.Errorf("at start-up %.20q of %q: %+v", name, value, earlyCalls[at])
			}
			at++
		}
	}
}

// Whatever becomes of an answer, and of its spare room, the next one, and one ahead of it, are the table.
func TestFunctionsAreNewMemory(t *testing.T) {
	kept := step.Functions()
	for range 3 {
		spoil(append(step.Functions(), "more"), "spoilt")
		spoil(step.Functions(), "spoilt")
		slices.Reverse(step.Functions())
		wantFunctions(t, kept)
		wantFunctions(t, step.Functions())
	}
	for _, name := range theFunctions {
		if made, e := step.Call(name, "12"); e != api.OK || made == "" || !step.Right(mapBy("a", name)) {
			t.Errorf("%s: %q, %d", name, made, e)
		}
	}
	wantRight(t, false, mapBy("a", "spoilt"))
}

func TestFunctionsAreTheSameAtEveryTime(t *testing.T) {
	var group sync.WaitGroup
	for seed := range 8 {
		group.Go(func() {
			callAll(t, seed)
			wantFunctions(t, step.Functions())
			if !slices.Equal(allCalls(), earlyCalls) {
				t.Error("other functions than at start-up")
			}
		})
	}
	group.Wait()
	wantFunctions(t, earlyNames)
}

// M2

// wantMade is what a function makes of a value.
func wantMade(t *testing.T, name, value, want string) {
	t.Helper()
	if got, e := checkCall(t, name, value); got != want || e != api.OK {
		t.Errorf("%s of %q: %q, %d; not %q", name, value, got, e, want)
	}
}

func wantNone(t *testing.T, want api.Errno, name string, values ...string) {
	t.Helper()
	for _, value := range values {
		if got, e := checkCall(t, name, value); got != "" || e != want {
			t.Errorf("%s of %q: %q, %d; not %d", name, value, got, e, want)
		}
	}
}

func TestNamesThatAreNone(t *testing.T) {
	for _, name := range notFunctions {
		wantNone(t, api.ErrStepForm, name, "", "a", "1", long(200), long(201), long(5000))
	}
	for b := range 256 {
		c := string([]byte{byte(b)})
		wantNone(t, api.ErrStepForm, c, "a")
		for _, name := range theFunctions {
			wantNone(t, api.ErrStepForm, name+c, "1")
			wantNone(t, api.ErrStepForm, c+name, "1")
		}
	}
	eachText("udplr", 5, func(name string) {
		if name != "upper" {
			wantNone(t, api.ErrStepForm, name, "1")
		}
	})
}

func TestDouble(t *testing.T) {
	for value, want := range map[string]string{"0": "0", "1": "2", "5": "10", "9": "18", "10": "20", "2147483647": "4294967294", "2147483648": "4294967296", "1000000000": "2000000000", "999999999": "1999999998"} {
		wantMade(t, "double", value, want)
	}
	wantNone(t, api.ErrStepValue, "double", "2147483649", "07", "00", "-1", "-0", "+1", "", " 1", "1 ", "1\t", "\t1", "1 2", "1.0", "1e1", "0x1", "0b1", "0o7", "1_0", "1,0", "a", "x", "x1", "1x", "1\x00", "\x001", "1\n", "½", "१", "\xff",
		"10000000000", "2147483650", "3000000000", "4294967295", "4294967296", "4294967297", "9223372036854775807", "9223372036854775808", "18446744073709551615", "18446744073709551616", "18446744073709551617", "36893488147419103233", strings.Repeat("1", 200), "0"+strings.Repeat("0", 199), strings.Repeat("0", 199)+"1")
}

// Numbers near to those at which numbers of some size end.
func TestDoubleOfManyNumbers(t *testing.T) {
	for n := range 3000 {
		wantMade(t, "double", strconv.Itoa(n), strconv.Itoa(2*n))
	}
	for bits := range 130 {
		for by := -40; by <= 40; by++ {
			n := new(big.Int).Lsh(big.NewInt(1), uint(bits))
			checkCall(t, "double", n.Add(n, big.NewInt(int64(by))).String())
		}
	}
	for n := 1; n <= 200; n++ {
		for _, digit := range []string{"0", "1", "9"} {
			checkCall(t, "double", strings.Repeat(digit, n))
			checkCall(t, "double", "1"+strings.Repeat(digit, n-1))
		}
	}
}

func TestTrim(t *testing.T) {
	for value, want := range map[string]string{
		"": "", " ": "", "\t": "", "  \t\t  ": "", " \t \t": "", " a b ": "a b", "\ta\tb\t": "a\tb", " \ta \t b\t ": "a \t b", "a": "a", " a": "a", "a ": "a",
		"\n a": "\n a", "a \n": "a \n", " \n ": "\n", "\v": "\v", "\f ": "\f", "\r\t": "\r", "\x00 ": "\x00", " \xa0 ": "\xa0", " \u00a0 ": "\u00a0", " \u2003": "\u2003", " \xff\xfe\t": "\xff\xfe", "\x85 ": "\x85",
	} {
		wantMade(t, "trim", value, want)
	}
	wantMade(t, "trim", strings.Repeat(" \t", 100), "")
	wantMade(t, "trim", strings.Repeat(" ", 100)+"a"+strings.Repeat("\t", 99), "a")
}

func TestLettersAndReverse(t *testing.T) {
	wantMade(t, "lower", "aBZ@[`{\xc0\xdfÄ", "abz@[`{\xc0\xdfÄ")
	wantMade(t, "upper", "AbzZ@[`{\xe0\xfeä", "ABZZ@[`{\xe0\xfeä")
	wantMade(t, "upper", "stra\u00dfe \u017f\u0131\u00ff", "STRA\u00dfE \u017f\u0131\u00ff")
	wantMade(t, "lower", "\u212aK\u0130", "\u212ak\u0130")
	wantMade(t, "reverse", "abc", "cba")
	wantMade(t, "reverse", "ä\xff\x00", "\x00\xff\xa4\xc3")
	wantMade(t, "reverse", " a", "a ")
	for _, name := range []string{"lower", "upper", "reverse", "trim"} {
		wantMade(t, name, "", "")
		wantMade(t, name, "7", "7")
	}
}

// Each byte alone, in a text, and two hundred of them.
func TestFunctionsOfEachByte(t *testing.T) {
	for _, name := range theFunctions {
		for b := range 256 {
			c := string([]byte{byte(b)})
			for _, value := range []string{c, c + c, "a" + c, c + "a", "A" + c + "z", " " + c, c + "\t", "1" + c, c + "1", strings.Repeat(c, 199), strings.Repeat(c, 200)} {
				checkCall(t, name, value)
			}
		}
	}
}

func TestLengthsOfValues(t *testing.T) {
	for _, name := range theFunctions {
		for length := range 420 {
			for _, value := range []string{long(length), strings.Repeat(" ", length), strings.Repeat("A", length), strings.Repeat("1", length)} {
				made, e := checkCall(t, name, value)
				if length > 200 && (e != api.ErrStepValue || made != "") {
					t.Errorf("%s of %d bytes: %q, %d", name, length, made, e)
				}
			}
		}
		// What it would make is short, and yet it is too long; bytes are counted, not runes.
		wantNone(t, api.ErrStepValue, name, strings.Repeat(" ", 200)+"1", strings.Repeat("ä", 101), strings.Repeat("a", 256), strings.Repeat("a", 1<<20))
	}
}

func TestFunctionsOfAllShortValues(t *testing.T) {
	for _, name := range theFunctions {
		eachText("aZ \t0", 5, func(value string) { checkCall(t, name, value) })
		eachText("0179+-_.xe ", 4, func(value string) { checkCall(t, name, value) })
	}
}

func TestRandomCalls(t *testing.T) {
	x := numbers(1)
	for range 40000 {
		checkCall(t, x.function(), x.value())
	}
}

// function is a name; at times it is none.
func (x *seeded) function() string {
	if x.next()%20 == 0 {
		return pick(x, notFunctions)
	}
	return pick(x, theFunctions)
}

// value is one of any bytes, or a number, or a text with blanks; at times it is too long.
func (x *seeded) value() string {
	switch x.next() % 4 {
	case 0:
		return strconv.Itoa(x.next() << (x.next() % 30) >> (x.next() % 60))
	case 1:
		return pick(x, []string{"", " ", "\t ", "a"}) + long(x.next()%4) + pick(x, []string{"", " ", " \t", "0"})
	}
	value := make([]byte, pick(x, []int{0, 1, 2, 5, 9, 199, 200, 201, x.next() % 250}))
	for i := range value {
		value[i] = byte(x.next())
	}
	return string(value)
}
