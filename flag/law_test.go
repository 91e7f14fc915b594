package flag_test

import (
	"fmt"
	"slices"
	"testing"

	"tinderbox/api"
	"tinderbox/flag"
	"tinderbox/key"
)

// F3, P7

// numbers gives the same numbers in every run.
type numbers uint64

func (x *numbers) next() int {
	*x = *x*6364136223846793005 + 1442695040888963407
	return int(*x >> 33)
}

func (x *numbers) oneOf(list ...string) string {
	return list[x.next()%len(list)]
}

func (x *numbers) text(letters string, most int) string {
	b := make([]byte, x.next()%(most+1))
	for i := range b {
		b[i] = letters[x.next()%len(letters)]
	}
	return string(b)
}

// meaning is a text of a setting: of any bytes, or of those that arguments are made of.
func (x *numbers) meaning() string {
	switch x.next() % 4 {
	case 0:
		bytes := make([]byte, x.next()%12)
		for i := range bytes {
			bytes[i] = byte(x.next())
		}
		return string(bytes)
	case 1:
		return x.text("-=hn", 4)
	case 2:
		return x.oneOf(manyTexts...)
	}
	return x.text("ab=-. \n", 20)
}

// settings are some of a set's, each with some text.
func (x *numbers) settings(s *key.Set, most int) []api.Given {
	var l []api.Given
	for range x.next() % (most + 1) {
		keys := s.All()
		l = append(l, given(keys[x.next()%len(keys)].Name, x.meaning(), x.next()))
	}
	return l
}

// args are some that ask for a set's settings; few are wrong.
func (x *numbers) args(s *key.Set, most int) []string {
	var args []string
	for range x.next() % (most + 1) {
		args = append(args, x.arg(s))
	}
	return args
}

func (x *numbers) arg(s *key.Set) string {
	keys := s.All()
	k := keys[x.next()%len(keys)]
	switch x.next() % 16 {
	case 0:
		return x.oneOf("--", "-", "", "-h", "--help", "x")
	case 1:
		return x.oneOf("--no-"+k.Name, "--no-"+k.Name+"=", "--=x", "--x", "--help="+x.meaning(), "-"+x.meaning())
	case 2, 3, 4:
		return "--" + k.Name
	case 5, 6, 7:
		return "--" + k.Name + "=" + x.meaning()
	case 8, 9, 10, 11:
		return "-" + x.row(keys) + k.Letter + x.text("xn=9", 2)
	}
	return x.meaning()
}

// row are letters of Bools, and of help.
func (x *numbers) row(keys []api.Key) string {
	letters := "h"
	for _, k := range keys {
		if k.Kind == api.Bool {
			letters += k.Letter
		}
	}
	return x.text(letters, 3)
}

func sets() []*key.Set {
	return []*key.Set{key.Standard(), ownSet(), shortSet()}
}

// placed are the same settings, each at the place of its argument.
func placed(l []api.Given) []api.Given {
	l = slices.Clone(l)
	for i := range l {
		l[i].At = i
	}
	return l
}

// checkReadAgain: Parse of Print gives the very same names and texts, each at its place, no Rest and no Help.
func checkReadAgain(t *testing.T, s *key.Set, l []api.Given) {
	t.Helper()
	args, e := checkPrint(t, s, l)
	if len(args) != len(l) || e != api.OK {
		t.Errorf("Print of %+v: %q, %d", l, args, e)
		return
	}
	wantGiven(t, s, args, placed(l)...)
	told, _, _ := flag.Parse(s, args)
	if again, e := flag.Print(s, told.Given); !slices.Equal(again, args) || e != api.OK {
		t.Errorf("Print of Parse of %q: %q, %d", args, again, e)
	}
}

func TestWhatIsPrintedIsRead(t *testing.T) {
	for seed, s := range sets() {
		x := numbers(seed)
		for range 3000 {
			checkReadAgain(t, s, x.settings(s, 20))
		}
		for _, k := range s.All() {
			for _, text := range manyTexts {
				checkReadAgain(t, s, []api.Given{given(k.Name, text, 7)})
			}
		}
	}
}

func TestAllShortTextsThatArePrintedAreRead(t *testing.T) {
	s := shortSet()
	for _, k := range s.All() {
		eachText("-=noh\n", 5, func(text string) {
			checkReadAgain(t, s, []api.Given{given(k.Name, text, 0)})
		})
	}
}

// What is read is printed, and read again as the same names and texts.
func TestWhatIsReadIsPrinted(t *testing.T) {
	for seed, s := range sets() {
		x := numbers(10 + seed)
		count := 0
		for range 30_000 {
			told, e, _ := checkParse(t, s, x.args(s, 8))
			if e == api.OK {
				count += len(told.Given)
				checkReadAgain(t, s, told.Given)
			}
		}
		if count < 20_000 {
			t.Errorf("only %d settings were read", count)
		}
	}
}

// What stands behind `--` bears upon Rest alone.
func TestWhatStandsBehindTheEndOfFlags(t *testing.T) {
	for seed, s := range sets() {
		x := numbers(20 + seed)
		count := 0
		for range 10_000 {
			args := x.args(s, 5)
			ahead, e, at := flag.Parse(s, args)
			if e == api.ErrFlagValue && at >= len(args)-1 {
				// `--` would be the text that is missing.
				continue
			}
			tail := x.args(s, 5)
			told, e2, at2 := checkParse(t, s, append(append(slices.Clone(args), "--"), tail...))
			if e2 != e || at2 != at {
				t.Errorf("Parse of %q with %q behind the end: %d, %d; without: %d, %d", args, tail, e2, at2, e, at)
			}
			if e != api.OK {
				continue
			}
			count++
			if !slices.Equal(told.Given, ahead.Given) || told.Help != ahead.Help || !endsWith(told.Rest, tail) {
				t.Errorf("Parse of %q with %q behind the end: %+v; without: %+v", args, tail, told, ahead)
			}
		}
		if count < 3000 {
			t.Errorf("only %d were read", count)
		}
	}
}

func endsWith(list, tail []string) bool {
	return len(list) >= len(tail) && slices.Equal(list[len(list)-len(tail):], tail)
}

// One list of settings has one list of arguments, and no two have the same.
func TestNoTwoListsArePrintedAlike(t *testing.T) {
	s := shortSet()
	byArgs := map[string][]api.Given{}
	x := numbers(30)
	for range 30_000 {
		l := placed(x.settings(s, 2))
		args, e := flag.Print(s, l)
		if e != api.OK {
			t.Fatalf("Print of %+v: %d", l, e)
		}
		whole := fmt.Sprintf("%q", args)
		if other, ok := byArgs[whole]; ok && !slices.Equal(other, l) {
			t.Errorf("%+v and %+v are both %q", other, l, args)
		}
		byArgs[whole] = l
		if again, _ := flag.Print(s, l); !slices.Equal(again, args) {
			t.Errorf("Print of %+v: %q, and %q", l, args, again)
		}
	}
}

// Ways to ask for the same: each setting alike, but at its own place.
func TestWaysToAskForTheSame(t *testing.T) {
	x := numbers(40)
	for _, s := range sets() {
		for _, k := range s.All() {
			text := x.text("abc019", 9) + "x"
			ways := [][]string{{"--" + k.Name + "=" + text}}
			if k.Kind == api.Bool {
				text = "true"
				ways = [][]string{{"--" + k.Name + "=true"}, {"--" + k.Name}}
			} else if k.Name != "help" {
				ways = append(ways, []string{"--" + k.Name, text})
			}
			switch {
			case k.Letter == "":
			case k.Kind == api.Bool:
				ways = append(ways, []string{"-" + k.Letter})
			default:
				ways = append(ways, []string{"-" + k.Letter + text}, []string{"-" + k.Letter, text})
			}
			for _, way := range ways {
				wantGiven(t, s, way, given(k.Name, text, 0))
				wantTold(t, s, append([]string{"x"}, way...), api.Args{Given: []api.Given{given(k.Name, text, 1)}, Rest: []string{"x"}})
			}
		}
	}
}
