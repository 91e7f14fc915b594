package env_test

import (
	"slices"
	"strings"
	"testing"

	"tinderbox/api"
	"tinderbox/env"
	"tinderbox/key"
)

// E3, P2, P4

// numbers gives the same numbers in every run.
type numbers uint64

func (x *numbers) next() int {
	*x = *x*6364136223846793005 + 1442695040888963407
	return int(*x >> 33)
}

func (x *numbers) oneOf(list ...string) string {
	return list[x.next()%len(list)]
}

func (x *numbers) text(letters string, most int) string {
	b := make([]byte, x.next()%(most+1))
	for i := range b {
		b[i] = letters[x.next()%len(letters)]
	}
	return string(b)
}

// name is one of 1 to 3 parts, of at most 32 bytes.
func (x *numbers) name(letters string) string {
	parts := make([]string, 1+x.next()%3)
	for i := range parts {
		parts[i] = oneByte('a'+x.next()%26) + x.text(letters, 8)
	}
	return strings.Join(parts, ".")
}

// meaning is a text of a pair: of any bytes, or of those that pairs are made of.
func (x *numbers) meaning() string {
	switch x.next() % 3 {
	case 0:
		bytes := make([]byte, x.next()%12)
		for i := range bytes {
			bytes[i] = byte(x.next())
		}
		return string(bytes)
	case 1:
		return x.oneOf(manyTexts...)
	}
	return x.text("AB_=1 \n", 9)
}

// pairs are some that speak of a set's settings, or of nothing; of 16 about one may be wrong.
func (x *numbers) pairs(s *key.Set, most int) []string {
	var pairs []string
	for range x.next() % (most + 1) {
		pairs = append(pairs, x.pair(s))
	}
	return pairs
}

func (x *numbers) pair(s *key.Set) string {
	keys := s.All()
	name := keys[x.next()%len(keys)].Name
	switch x.next() % 32 {
	case 0:
		return calledByWords(firstPart(name)) + "_" + x.text("XPORT_1q", 4) + "=" + x.meaning()
	case 1:
		return x.oneOf("", "=", "=1", "B", calledByWords(name), name)
	case 2, 3:
		return name + "=" + x.meaning()
	case 4, 5, 6:
		return "X" + x.text("NET_PORT1", 5) + "=" + x.meaning()
	case 7, 8:
		return calledByWords(firstPart(name)) + x.oneOf("", "X", "0", ".") + "=" + x.meaning()
	}
	return calledByWords(name) + "=" + x.meaning()
}

// No two names are called the same: what a name is called tells it.
func TestNoTwoNamesAreCalledTheSame(t *testing.T) {
	byCalled := map[string]string{}
	check := func(name string) {
		called, e := checkName(t, name)
		if e != api.OK {
			return
		}
		if other, ok := byCalled[called]; ok && other != name {
			t.Errorf("%q and %q are both called %q", other, name, called)
		}
		byCalled[called] = name
		if strings.ReplaceAll(strings.ToLower(called), "_", ".") != name {
			t.Errorf("%q is called %q", name, called)
		}
	}
	eachText("ab1.", 8, check)
	x := numbers(1)
	for range 30_000 {
		check(x.name("abcdefghijklmnopqrstuvwxyz0123456789"))
		check(x.name("az09"))
	}
	if len(byCalled) < 50_000 {
		t.Errorf("only %d names", len(byCalled))
	}
}

// movedOn are the same settings, so many places later.
func movedOn(l []api.Given, by int) []api.Given {
	l = slices.Clone(l)
	for i := range l {
		l[i].At += by
	}
	return l
}

// Two lists of which each is taken are taken one behind the other, the places behind moved on; else what is wrong first is told.
func TestListsOneBehindTheOther(t *testing.T) {
	for seed, s := range sets() {
		x := numbers(10 + seed)
		counts := map[api.Errno]int{}
		for range 10_000 {
			one, two := x.pairs(s, 8), x.pairs(s, 8)
			told1, e1, at1 := env.Parse(s, one)
			told2, e2, at2 := env.Parse(s, two)
			want, wantE, wantAt := append(slices.Clone(told1), movedOn(told2, len(one))...), api.OK, 0
			switch {
			case e1 != api.OK:
				want, wantE, wantAt = nil, e1, at1
			case e2 != api.OK:
				want, wantE, wantAt = nil, e2, at2+len(one)
			}
			told, e, at := env.Parse(s, append(slices.Clone(one), two...))
			if !slices.Equal(told, want) || e != wantE || at != wantAt {
				t.Errorf("Parse of %q and %q: %+v, %d, %d; not %+v, %d, %d", one, two, told, e, at, want, wantE, wantAt)
			}
			counts[e]++
		}
		if counts[api.OK] < 3000 || counts[api.ErrEnvForm] < 500 || counts[api.ErrEnvName] < 500 {
			t.Errorf("how often each was answered: %v", counts)
		}
	}
}

// What is told hangs on each pair by itself: a list tells what its pairs tell, each alone.
func TestEachPairByItself(t *testing.T) {
	for seed, s := range sets() {
		x := numbers(20 + seed)
		for range 5000 {
			pairs := x.pairs(s, 12)
			var want []api.Given
			wantE, wantAt := api.OK, 0
			for i, pair := range pairs {
				told, e, at := env.Parse(s, []string{pair})
				if at != 0 || len(told) > 1 {
					t.Errorf("Parse of %q: %+v, %d, %d", pair, told, e, at)
				}
				if e != api.OK {
					want, wantE, wantAt = nil, e, i
					break
				}
				want = append(want, movedOn(told, i)...)
			}
			if told, e, at := checkParse(t, s, pairs); !slices.Equal(told, want) || e != wantE || at != wantAt {
				t.Errorf("Parse of %q: %+v, %d, %d; each alone: %+v, %d, %d", pairs, told, e, at, want, wantE, wantAt)
			}
		}
	}
}

// ofFirstPart is a set with those of a set's definitions that have that first part.
func ofFirstPart(s *key.Set, first string) *key.Set {
	return setOf(slices.DeleteFunc(s.All(), func(k api.Key) bool { return firstPart(k.Name) != first })...)
}

// What other settings there are, of other first parts, does not matter for a setting's pairs, nor for those that begin with what its first part is called.
func TestSettingsOfOtherFirstParts(t *testing.T) {
	for seed, s := range sets() {
		x := numbers(30 + seed)
		for _, k := range s.All() {
			first := firstPart(k.Name)
			alone := ofFirstPart(s, first)
			for range 300 {
				pairs := []string{calledByWords(k.Name) + "=" + x.meaning(), "A0=1", calledByWords(k.Name) + "="}
				if x.next()%2 == 0 {
					pairs = append(pairs, calledByWords(first)+"_"+x.text("PORTX_E", 5)+"="+x.meaning())
				}
				wantTold, wantE, wantAt := env.Parse(alone, pairs)
				if told, e, at := checkParse(t, s, pairs); !slices.Equal(told, wantTold) || e != wantE || at != wantAt {
					t.Errorf("Parse of %q: %+v, %d, %d; without other first parts: %+v, %d, %d", pairs, told, e, at, wantTold, wantE, wantAt)
				}
			}
		}
	}
}

// A set that gets settings of other first parts tells the same of a setting's pairs at every time.
func TestASetThatGrows(t *testing.T) {
	s := textsOf("m.x", "m.y.z", "m")
	pairs := words("M_X=1 M_Y_Z= M=3 M_X=4")
	want := []api.Given{given("m.x", "1", 0), given("m.y.z", "", 1), given("m", "3", 2), given("m.x", "4", 3)}
	x := numbers(40)
	for count := 3; count < 64; {
		wantGiven(t, s, pairs, want...)
		wantWrong(t, s, words("M_X=1 M_Y=2 B"), api.ErrEnvName, 1)
		name := x.name("mxyz09")
		if firstPart(name) != "m" && s.Add(api.Key{Name: name, Kind: api.Text}) == api.OK {
			count++
		}
	}
	wantGiven(t, s, pairs, want...)
}

// What other pairs give bears upon no setting: its own pairs tell the same where all others are left out.
func TestWhatIsGivenOfOneSettingHangsOnItsPairsAlone(t *testing.T) {
	for seed, s := range sets() {
		x := numbers(50 + seed)
		for range 2000 {
			pairs := x.pairs(s, 12)
			told, e, _ := env.Parse(s, pairs)
			if e != api.OK {
				continue
			}
			for _, k := range s.All() {
				var own []string
				var want []api.Given
				for _, pair := range pairs {
					if strings.HasPrefix(pair, calledByWords(k.Name)+"=") {
						own = append(own, pair)
					}
				}
				for _, g := range told {
					if g.Name == k.Name {
						want = append(want, given(g.Name, g.Text, len(want)))
					}
				}
				wantGiven(t, s, own, want...)
			}
		}
	}
}

// In which order definitions were added does not matter, nor what they say beside their names.
func TestOrderAndKindsOfDefinitions(t *testing.T) {
	for seed, s := range sets() {
		x := numbers(60 + seed)
		back, texts := s.All(), key.New()
		slices.Reverse(back)
		for _, k := range back {
			texts.Add(api.Key{Name: k.Name, Kind: api.Text, Default: "x"})
		}
		reversed := setOf(back...)
		for range 3000 {
			pairs := x.pairs(s, 8)
			told, e, at := env.Parse(s, pairs)
			for _, other := range []*key.Set{reversed, texts} {
				if told2, e2, at2 := env.Parse(other, pairs); !slices.Equal(told, told2) || e != e2 || at != at2 {
					t.Errorf("Parse of %q: %+v, %d, %d; and %+v, %d, %d", pairs, told, e, at, told2, e2, at2)
				}
			}
		}
	}
}

// What is given is a setting of the set, at the place of a pair that is called so and has that text.
func TestWhatIsGivenStandsInThePairs(t *testing.T) {
	for seed, s := range sets() {
		x := numbers(70 + seed)
		count := 0
		for range 5000 {
			pairs := x.pairs(s, 12)
			told, _, _ := env.Parse(s, pairs)
			for _, g := range told {
				count++
				called, e := env.Name(g.Name)
				if _, ok := s.Find(g.Name); !ok || e != api.OK || pairs[g.At] != called+"="+g.Text {
					t.Errorf("Parse of %q: %+v", pairs, g)
				}
			}
		}
		if count < 5000 {
			t.Errorf("only %d settings were given", count)
		}
	}
}
