package layer_test

import (
	"math"
	"slices"
	"strconv"
	"strings"
	"testing"

	"tinderbox/api"
	"tinderbox/env"
	"tinderbox/flag"
	"tinderbox/ini"
	"tinderbox/key"
	"tinderbox/layer"
)

// L1: the chapter's examples

func TestMergeExamples(t *testing.T) {
	s := key.Standard()
	x, _ := merged(t, s, nil, nil)
	if all := x.All(); len(all) != 16 || slices.ContainsFunc(all, func(one api.Setting) bool { return one.From != api.FromDefault }) {
		t.Errorf("Merge of nothing: %+v", all)
	}
	wantHeld(t, x, "net.port", integer(8080), api.FromDefault)
	x, _ = merged(t, s, lists(given("net.port", "9000"), given("net.port", "9001", "net.port", "9002")), []int{1, 3})
	wantHeld(t, x, "net.port", integer(9002), api.FromEnv)
	wantWrong(t, s, lists(given("net.port", "9000", "net.prot", "1")), []int{1}, api.ErrLayerName, 0, 1)
	wantWrong(t, s, lists(given("log.level", "9")), []int{1}, api.ErrLayerValue, 0, 0)
	wantWrong(t, s, lists(given("store.cache", "4x")), []int{1}, api.ErrLayerValue, 0, 0)
	wantWrong(t, s, lists(given("net.port", "9000")), nil, api.ErrArg, 0, 0)
	wantWrong(t, s, lists(given("net.port", "9000"), given("net.port", "9000")), []int{3, 3}, api.ErrArg, 0, 0)
	wantWrong(t, s, lists(given("net.port", "9000")), []int{0}, api.ErrArg, 0, 0)
}

// P4, and the second example of the whole: a file, an environment and arguments, as layers 6 to 8 read them.
func TestTheHighestOriginCounts(t *testing.T) {
	s := key.Standard()
	lines, _, _ := ini.Parse("[net]\nport = 9000\nhost = file\ntimeout = 5s\n")
	var file []api.Given
	for _, line := range lines {
		file = append(file, api.Given{Name: line.Name, Text: line.Text, At: line.At})
	}
	stored := given("net.port", "9003", "net.peers", "a,b", "log.level", "1")
	environment, _, _ := env.Parse(s, []string{"HOME=/root", "NET_PORT=9001", "NET_TIMEOUT=6s"})
	args, _, _ := flag.Parse(s, []string{"-p", "9002", "-v", "5"})
	origins := []int{api.FromFile, api.FromStore, api.FromEnv, api.FromFlag}

	x, _ := merged(t, s, lists(file, stored, environment, args.Given), origins)
	wantHeld(t, x, "net.port", integer(9002), api.FromFlag)
	wantHeld(t, x, "log.level", integer(5), api.FromFlag)
	wantHeld(t, x, "net.timeout", api.Value{Kind: api.Span, Int: 6}, api.FromEnv)
	wantHeld(t, x, "net.peers", words("a", "b"), api.FromStore)
	wantHeld(t, x, "net.host", text("file"), api.FromFile)
	wantHeld(t, x, "boot.workers", integer(0), api.FromDefault)

	x, _ = merged(t, s, lists(file, stored, environment, nil), origins)
	wantHeld(t, x, "net.port", integer(9001), api.FromEnv)
	x, _ = merged(t, s, lists(file, stored), origins[:2])
	wantHeld(t, x, "net.port", integer(9003), api.FromStore)
	x, _ = merged(t, s, lists(file), origins[:1])
	wantHeld(t, x, "net.port", integer(9000), api.FromFile)

	zero, _, _ := flag.Parse(s, []string{"--boot.workers=0"})
	x, _ = merged(t, s, lists(zero.Given), origins[3:])
	wantHeld(t, x, "boot.workers", integer(0), api.FromFlag)
}

// L1: sets

// That there is no set is named ahead of all that is wrong with the lists.
func TestMergeWithoutASet(t *testing.T) {
	for _, l := range [][][]api.Given{nil, {}, {nil}, {{}}, lists(given("net.port", "9000")), lists(given("net.prot", "1")), lists(given("", "")), lists(nil, given("net.port", "x"))} {
		for _, from := range [][]int{nil, {}, {1}, {1, 3}, {3, 3}, {0}, {5}} {
			if x, e, i, at := layer.Merge(nil, l, from); x != nil || e != api.ErrArg || i != 0 || at != 0 {
				t.Errorf("Merge of %v from %v without a set: %d, %d, %d", l, from, e, i, at)
			}
		}
	}
}

func TestMergeWithASetOfNone(t *testing.T) {
	for _, s := range []*key.Set{key.New(), new(key.Set)} {
		for _, from := range rising {
			x, m := merged(t, s, make([][]api.Given, len(from)), from)
			if all := x.All(); len(all) != 0 {
				t.Errorf("All of no settings: %+v", all)
			}
			m.wantPut(t, x, "net.port", integer(1), 1, api.ErrLayerName)
			m.wantPut(t, x, "", api.Value{}, 6, api.ErrLayerName)
			m.check(t, x.Copy())
		}
		wantWrong(t, s, lists(given("net.port", "9000")), []int{1}, api.ErrLayerName, 0, 0)
		wantWrong(t, s, lists(nil, given("", "")), []int{1, 2}, api.ErrLayerName, 1, 0)
		wantWrong(t, s, lists(given("net.port", "9000")), []int{5}, api.ErrArg, 0, 0)
	}
}

// Each setting of a set is given by its name, in the set that has it, and in no other one.
func TestMergeWithSetsOfACallersOwn(t *testing.T) {
	s, own := key.Standard(), ownSet()
	for _, k := range own.All() {
		for _, said := range manyTexts {
			checkMerge(t, own, lists(given(k.Name, said)), []int{2})
		}
		wantWrong(t, s, lists(given(k.Name, k.Default)), []int{2}, api.ErrLayerName, 0, 0)
		merged(t, own, lists(given(k.Name, k.Default)), []int{2})
	}
	for _, k := range s.All() {
		for _, said := range manyTexts {
			checkMerge(t, s, lists(nil, given(k.Name, said)), []int{2, 3})
		}
		wantWrong(t, own, lists(given(k.Name, k.Default)), []int{2}, api.ErrLayerName, 0, 0)
		merged(t, s, lists(given(k.Name, k.Default)), []int{2})
	}
}

func TestMergeWithASetOf64(t *testing.T) {
	s := key.New()
	var list []api.Given
	for i := range 64 {
		// Steps of 37 leave the names in no order.
		name := "k" + strconv.Itoa(i*37%101)
		if e := s.Add(api.Key{Name: name, Kind: api.Int, Default: strconv.Itoa(i), Most: 200}); e != api.OK {
			t.Fatal(e)
		}
		list = append(list, given(name, strconv.Itoa(i+100))...)
	}
	merged(t, s, nil, nil)
	x, _ := merged(t, s, lists(list[:32], list[16:48]), []int{1, 4})
	for i, g := range list {
		want, from := i, api.FromDefault
		switch {
		case i >= 16 && i < 48:
			want, from = i+100, api.FromFlag
		case i < 16:
			want, from = i+100, api.FromFile
		}
		wantHeld(t, x, g.Name, integer(want), from)
	}
}

// Settings are those of the set as it was when they were made.
func TestWhatIsAddedToASetLater(t *testing.T) {
	s := key.Standard()
	x, m := merged(t, s, lists(given("net.port", "1")), []int{1})
	for _, name := range []string{"a", "net.a", "net.z", "z"} {
		if e := s.Add(api.Key{Name: name, Kind: api.Text, Default: "d"}); e != api.OK {
			t.Fatal(e)
		}
		m.check(t, x)
		m.check(t, x.Copy())
		m.wantPut(t, x, name, text("x"), 1, api.ErrLayerName)
		m.wantPut(t, x.Copy(), name, text("x"), 1, api.ErrLayerName)
		later, _ := merged(t, s, lists(given(name, "later")), []int{1})
		wantHeld(t, later, name, text("later"), api.FromFile)
		m.wantPut(t, x, "net.port", integer(len(name)), 2, api.OK)
	}
	if len(x.All()) != 16 {
		t.Errorf("All: %+v", x.All())
	}
}

// L1: origins

// Each list of up to five numbers that are near to origins, with lists as many, more and fewer.
func TestOrigins(t *testing.T) {
	s := setOf(api.Key{Name: "a", Kind: api.Int, Default: "0", Most: 9})
	taken := 0
	var grow func(from []int)
	grow = func(from []int) {
		for count := range 6 {
			l := make([][]api.Given, count)
			for i := range l {
				l[i] = given("a", strconv.Itoa(i+1))
			}
			if _, _, e := checkMerge(t, s, l, from); e == api.OK {
				taken++
			} else if e != api.ErrArg {
				t.Errorf("%d lists from %v: %d", count, from, e)
			}
		}
		for origin := -1; origin <= 6 && len(from) < 5; origin++ {
			grow(append(slices.Clone(from), origin))
		}
	}
	grow(nil)
	if taken != 16 {
		t.Errorf("%d were taken", taken)
	}
}

func TestOriginsThatMayNotBe(t *testing.T) {
	s := key.Standard()
	for _, from := range [][]int{{0}, {5}, {6}, {-1}, {math.MinInt}, {math.MaxInt}, {1 << 32}, {1<<32 + 1}, {257}, {-3}} {
		wantWrong(t, s, lists(nil), from, api.ErrArg, 0, 0)
		wantWrong(t, s, lists(given("net.port", "1")), from, api.ErrArg, 0, 0)
	}
	for _, from := range [][]int{{0, 1}, {1, 0}, {1, 5}, {4, 5}, {-1, 1}, {1, 1}, {3, 3}, {4, 4}, {2, 1}, {4, 1}, {4, 3}, {math.MinInt, 4}, {1, math.MaxInt}} {
		wantWrong(t, s, lists(nil, nil), from, api.ErrArg, 0, 0)
		wantWrong(t, s, lists(given("net.port", "1"), given("net.port", "1")), from, api.ErrArg, 0, 0)
	}
	for _, from := range [][]int{{1, 2, 2}, {1, 1, 2}, {1, 3, 2}, {2, 1, 3}, {0, 1, 2}, {3, 4, 5}, {1, 2, 3, 3}, {1, 2, 4, 3}, {0, 1, 2, 3}, {2, 3, 4, 5}, {1, 2, 3, 4, 5}, {0, 1, 2, 3, 4}, {1, 2, 3, 4, 4}} {
		wantWrong(t, s, make([][]api.Given, len(from)), from, api.ErrArg, 0, 0)
	}
	for _, count := range []int{6, 100, 100_000} {
		wantWrong(t, s, make([][]api.Given, count), slices.Repeat([]int{1}, count), api.ErrArg, 0, 0)
		many := make([]int, count)
		for i := range many {
			many[i] = i + 1
		}
		wantWrong(t, s, make([][]api.Given, count), many, api.ErrArg, 0, 0)
	}
}

func TestMoreListsThanNumbersAndFewer(t *testing.T) {
	s := key.Standard()
	for _, from := range rising {
		for count := range 7 {
			if count != len(from) {
				wantWrong(t, s, make([][]api.Given, count), from, api.ErrArg, 0, 0)
				wantWrong(t, s, slices.Repeat(lists(given("net.port", "1")), count), from, api.ErrArg, 0, 0)
			}
		}
	}
	wantWrong(t, s, nil, []int{1}, api.ErrArg, 0, 0)
	wantWrong(t, s, [][]api.Given{}, []int{1}, api.ErrArg, 0, 0)
}

// What is wrong with the arguments is named ahead of what is wrong in the lists, and with it no place.
func TestErrArgStandsAheadOfTheOthers(t *testing.T) {
	s := key.Standard()
	for _, wrong := range [][]api.Given{given("net.port", "1", "net.prot", "1"), given("net.port", "1", "log.level", "9")} {
		wantWrong(t, s, lists(wrong), nil, api.ErrArg, 0, 0)
		wantWrong(t, s, lists(nil, wrong), []int{1}, api.ErrArg, 0, 0)
		wantWrong(t, s, lists(nil, wrong), []int{1, 2, 3}, api.ErrArg, 0, 0)
		wantWrong(t, s, lists(nil, wrong), []int{3, 3}, api.ErrArg, 0, 0)
		wantWrong(t, s, lists(nil, wrong), []int{4, 3}, api.ErrArg, 0, 0)
		wantWrong(t, s, lists(nil, wrong), []int{0, 3}, api.ErrArg, 0, 0)
		wantWrong(t, s, lists(nil, wrong), []int{1, 5}, api.ErrArg, 0, 0)
		wantWrong(t, s, lists(wrong, nil), []int{1, 5}, api.ErrArg, 0, 0)
	}
}

// L1: lists that are empty

func TestListsThatAreEmpty(t *testing.T) {
	for _, s := range sets() {
		_, defaults := merged(t, s, nil, nil)
		merged(t, s, [][]api.Given{}, []int{})
		for _, from := range rising {
			for _, empty := range [][]api.Given{nil, {}, given("net.prot", "x")[:0]} {
				x, _ := merged(t, s, slices.Repeat(lists(empty), len(from)), from)
				defaults.check(t, x)
			}
		}
	}
	x, _ := merged(t, key.Standard(), lists(nil, given("net.port", "7"), nil, nil), []int{1, 2, 3, 4})
	wantHeld(t, x, "net.port", integer(7), api.FromStore)
}

// L1: names

func TestNamesThatTheSetDoesNotHave(t *testing.T) {
	for _, s := range sets() {
		for _, k := range s.All() {
			for _, near := range nearNames(k.Name) {
				if _, ok := s.Find(near); !ok {
					wantWrong(t, s, lists(given(near, k.Default)), []int{1}, api.ErrLayerName, 0, 0)
					wantWrong(t, s, lists(nil, given(k.Name, k.Default, near, "\n")), []int{1, 4}, api.ErrLayerName, 1, 1)
				}
			}
		}
		for _, name := range []string{"", ".", " ", "NET_PORT", "--net.port", "\x00", "\xff", "net.prot", strings.Repeat("a", 33), strings.Repeat("net.port", 1<<17)} {
			wantWrong(t, s, lists(given(name, "1")), []int{3}, api.ErrLayerName, 0, 0)
		}
	}
}

// L1: texts

// numberText is a number as a text of a kind, without a greater unit.
func numberText(kind, n int) string {
	if kind == api.Span {
		return strconv.Itoa(n) + "s"
	}
	return strconv.Itoa(n)
}

func wordsText(count int) string {
	return strings.Join(slices.Repeat([]string{"w"}, count), ",")
}

// A value below its Least and above its Most is refused; at them and between them it is taken.
func TestBoundsOfWhatIsGiven(t *testing.T) {
	for _, s := range sets() {
		for _, k := range s.All() {
			print := func(n int) string { return numberText(k.Kind, n) }
			switch k.Kind {
			case api.Bool, api.Text:
				continue
			case api.Words:
				print = wordsText
			}
			// Halves: the whole of a range may be more than an int holds.
			for _, n := range []int{k.Least, k.Most, max(k.Least, k.Least/2+k.Most/2)} {
				x, _ := merged(t, s, lists(given(k.Name, print(n))), []int{4})
				want := api.Value{Kind: k.Kind, Int: n}
				if k.Kind == api.Words {
					want = words(slices.Repeat([]string{"w"}, n)...)
				}
				wantHeld(t, x, k.Name, want, api.FromFlag)
			}
			if k.Kind != api.Words || k.Least > 0 {
				wantWrong(t, s, lists(given(k.Name, print(k.Least-1))), []int{4}, api.ErrLayerValue, 0, 0)
			}
			wantWrong(t, s, lists(given(k.Name, print(k.Most+1))), []int{4}, api.ErrLayerValue, 0, 0)
			wantWrong(t, s, lists(given(k.Name, k.Default), given(k.Name, print(k.Most+1))), []int{1, 2}, api.ErrLayerValue, 1, 0)
		}
	}
}

func TestTextsThatAreRefusedAsOnesOfTheirKind(t *testing.T) {
	s := key.Standard()
	for name, texts := range map[string][]string{
		"boot.dry":      {"", "1", "0", "On", "TRUE", " on", "on ", "yess"},
		"net.port":      {"", "x", "+1", "01", "1 ", "8080k", "0x1", "-0", "1.0", strings.Repeat("9", 400)},
		"log.level":     {"", "-1", "two", "2s"},
		"store.cache":   {"", "4x", "4K", "k", "-1", "4 m", "1048577g", "04k"},
		"log.keep":      {"", "7", "d", "7D", "-7d", "7d7", "07d"},
		"net.host":      {"\n", "a\x00", "\x7f", "\xff", "\u00e4", strings.Repeat("x", 201)},
		"net.peers":     {",", "a,", ",a", "a,,b", "A", "a, b", "a b", wordsText(17), strings.Repeat("x", 33), strings.Repeat(strings.Repeat("x", 32)+",", 6) + "xxx,x"},
		"boot.services": {"log,", "Log", "log net"},
	} {
		for _, said := range texts {
			wantWrong(t, s, lists(given(name, said)), []int{1}, api.ErrLayerValue, 0, 0)
			wantWrong(t, s, lists(nil, given("net.port", "1", name, said)), []int{1, 3}, api.ErrLayerValue, 1, 1)
		}
	}
}

func TestTextsOfEachKind(t *testing.T) {
	for name, said := range map[string]map[string]api.Value{
		"boot.dry":      {"on": {Kind: api.Bool, Int: 1}, "true": {Kind: api.Bool, Int: 1}, "no": {Kind: api.Bool}},
		"net.port":      {"1": integer(1), "65535": integer(65535), "9000": integer(9000)},
		"store.cache":   {"0": {Kind: api.Size}, "2048k": {Kind: api.Size, Int: 2 << 20}, "1g": {Kind: api.Size, Int: 1 << 30}},
		"log.keep":      {"1s": {Kind: api.Span, Int: 1}, "30d": {Kind: api.Span, Int: 2592000}, "90m": {Kind: api.Span, Int: 5400}},
		"net.host":      {"": text(""), " x ": text(" x "), "${a}$": text("${a}$"), strings.Repeat("x", 200): text(strings.Repeat("x", 200))},
		"net.peers":     {"": words(), "a": words("a"), "b,a,b": words("b", "a", "b")},
		"boot.services": {"": words(), "net": words("net")},
	} {
		for s, want := range said {
			for _, from := range []int{1, 2, 3, 4} {
				x, _ := merged(t, key.Standard(), lists(given(name, s)), []int{from})
				wantHeld(t, x, name, want, from)
			}
		}
	}
}

// L1: what is wrong first

// wrongOnes are refused by the standard set.
var wrongOnes = map[api.Given]api.Errno{
	{Name: "net.prot", Text: "1"}: api.ErrLayerName, {Name: "", Text: ""}: api.ErrLayerName, {Name: "net", Text: "x"}: api.ErrLayerName,
	{Name: "net.port", Text: "0"}: api.ErrLayerValue, {Name: "log.level", Text: "9"}: api.ErrLayerValue, {Name: "store.cache", Text: "4x"}: api.ErrLayerValue, {Name: "boot.dry", Text: ""}: api.ErrLayerValue,
}

func TestTheFirstWrongOneIsTold(t *testing.T) {
	s := key.Standard()
	right := given("net.port", "1", "boot.dry", "on", "log.level", "0")
	for one, e := range wrongOnes {
		for other := range wrongOnes {
			wantWrong(t, s, lists([]api.Given{one, other}), []int{1}, e, 0, 0)
			wantWrong(t, s, lists([]api.Given{one}, []api.Given{other}), []int{1, 2}, e, 0, 0)
			wantWrong(t, s, lists(nil, append(slices.Clone(right), one, other), []api.Given{other}), []int{1, 2, 4}, e, 1, 3)
			wantWrong(t, s, lists(append(slices.Clone(right), one), []api.Given{other}), []int{2, 3}, e, 0, 3)
			wantWrong(t, s, lists(right, right, right, []api.Given{right[0], one, right[1], other}), []int{1, 2, 3, 4}, e, 3, 1)
		}
	}
}

// A wrong one is told, also where a later one of its name stands over it.
func TestAWrongOneThatALaterOneStandsOver(t *testing.T) {
	s := key.Standard()
	for wrong, e := range wrongOnes {
		k, _ := s.Find(wrong.Name)
		over := given(wrong.Name, k.Default)[0]
		if k.Name == "" {
			over = given("net.port", "1")[0]
		}
		wantWrong(t, s, lists([]api.Given{wrong, over}), []int{1}, e, 0, 0)
		wantWrong(t, s, lists([]api.Given{over, wrong, over}), []int{1}, e, 0, 1)
		wantWrong(t, s, lists([]api.Given{wrong}, []api.Given{over}), []int{1, 2}, e, 0, 0)
		wantWrong(t, s, lists([]api.Given{over}, []api.Given{wrong}, []api.Given{over}), []int{1, 3, 4}, e, 1, 0)
	}
}

func TestBothPlaces(t *testing.T) {
	s := key.Standard()
	for wrong, e := range wrongOnes {
		for _, from := range rising {
			for i := range from {
				for at := range 5 {
					l := make([][]api.Given, len(from))
					for ahead := range l {
						l[ahead] = given("net.port", "1", "log.level", "1")[:ahead%3]
					}
					l[i] = append(slices.Repeat(given("boot.dry", "on"), at), wrong)
					wantWrong(t, s, l, from, e, i, at)
					l[i] = append(l[i], given("boot.dry", "x")...)
					wantWrong(t, s, l, from, e, i, at)
				}
			}
		}
	}
}

// L1: what is given twice

func TestANameThatIsGivenTwiceInOneList(t *testing.T) {
	s := key.Standard()
	for count := 1; count < 20; count++ {
		var list []api.Given
		for n := range count {
			list = append(list, given("net.port", strconv.Itoa(n+1), "log.level", strconv.Itoa(n%6))...)
		}
		x, _ := merged(t, s, lists(list), []int{3})
		wantHeld(t, x, "net.port", integer(count), api.FromEnv)
		wantHeld(t, x, "log.level", integer((count-1)%6), api.FromEnv)
	}
	x, _ := merged(t, s, lists(given("net.peers", "a,b,c", "net.peers", "", "net.host", "x", "net.host", "")), []int{2})
	wantHeld(t, x, "net.peers", words(), api.FromStore)
	wantHeld(t, x, "net.host", text(""), api.FromStore)
}

func TestANameThatIsGivenInSeveralLists(t *testing.T) {
	s := key.Standard()
	for _, from := range rising {
		// In each list of those that the bits tell it is given, twice.
		for bits := range 1 << len(from) {
			l := make([][]api.Given, len(from))
			want, origin := 8080, api.FromDefault
			for i := range from {
				if bits>>i&1 == 1 {
					l[i] = given("net.port", strconv.Itoa(i+10), "net.port", strconv.Itoa(i+20))
					want, origin = i+20, from[i]
				}
			}
			x, _ := merged(t, s, l, from)
			wantHeld(t, x, "net.port", integer(want), origin)
		}
	}
}

// What is given is from there, also if it says what the default says.
func TestWhatIsGivenAsTheDefault(t *testing.T) {
	for _, s := range sets() {
		for _, k := range s.All() {
			for origin := 1; origin <= 4; origin++ {
				x, m := merged(t, s, lists(given(k.Name, k.Default)), []int{origin})
				if one, _ := x.Get(k.Name); one.From != origin || m.held[k.Name].From != origin {
					t.Errorf("%+v", one)
				}
			}
		}
	}
}

func TestAtIsNotLookedAt(t *testing.T) {
	s := key.Standard()
	for _, at := range []int{0, 1, -1, 99, math.MaxInt, math.MinInt} {
		x, _ := merged(t, s, lists([]api.Given{{Name: "net.port", Text: "1", At: at}, {Name: "net.port", Text: "2", At: -at}}), []int{1})
		wantHeld(t, x, "net.port", integer(2), api.FromFile)
		wantWrong(t, s, lists([]api.Given{{Name: "net.port", Text: "1", At: at}, {Name: "net.prot", Text: "2", At: at}}), []int{1}, api.ErrLayerName, 0, 1)
	}
}

// L1: all short lists over chosen ones

func TestAllShortLists(t *testing.T) {
	s := setOf(api.Key{Name: "a", Kind: api.Int, Default: "1", Most: 2}, api.Key{Name: "a.b", Kind: api.Words, Default: "x", Most: 2})
	chosen := given("a", "0", "a", "2", "a", "3", "a.b", "", "a.b", "y,x", "a.b", "a,b,c", "b", "1")
	short := lists(nil)
	for _, one := range chosen {
		short = append(short, []api.Given{one})
		for _, other := range chosen {
			short = append(short, []api.Given{one, other})
		}
	}
	counts := map[api.Errno]int{}
	for i, one := range short {
		_, _, e := checkMerge(t, s, lists(one), []int{1 + i%4})
		counts[e]++
		for _, two := range short {
			_, _, e := checkMerge(t, s, lists(one, two), rising[5+i%6])
			counts[e]++
		}
	}
	few := slices.DeleteFunc(short, func(l []api.Given) bool { return len(l) == 2 })
	for _, one := range few {
		for _, two := range few {
			for i, three := range few {
				checkMerge(t, s, lists(one, two, three), rising[11+i%4])
				checkMerge(t, s, lists(three, one, few[3], two), rising[15])
			}
		}
	}
	if counts[api.OK] < 400 || counts[api.ErrLayerName] < 500 || counts[api.ErrLayerValue] < 500 {
		t.Errorf("how often each was answered: %v", counts)
	}
}

// L1, R1: many, and long ones

func TestManyAndLongOnes(t *testing.T) {
	s := key.Standard()
	many := slices.Repeat(given("net.port", "1", "log.level", "2", "net.port", "3", "boot.services", "a,b"), 1<<16)
	x, e, _, _ := layer.Merge(s, lists(many, given("log.level", "5"), many), []int{1, 2, 4})
	if e != api.OK {
		t.Fatal(e)
	}
	wantHeld(t, x, "net.port", integer(3), api.FromFlag)
	wantHeld(t, x, "log.level", integer(2), api.FromFlag)
	wantHeld(t, x, "boot.services", words("a", "b"), api.FromFlag)
	for wrong, e := range wrongOnes {
		if x, got, i, at := layer.Merge(s, lists(nil, append(many, wrong)), []int{1, 2}); x != nil || got != e || i != 1 || at != 1<<18 {
			t.Errorf("%+v behind many: %d, %d, %d", wrong, got, i, at)
		}
	}
	long := strings.Repeat("net.port", 1<<18)
	for _, name := range []string{"net.host", "net.peers", "net.port", "boot.dry", "log.keep", "store.page"} {
		wantWrong(t, s, lists(given("net.port", "1", name, long)), []int{1}, api.ErrLayerValue, 0, 1)
		wantWrong(t, s, lists(given("net.port", "1", name, strings.Repeat("9", 1<<20))), []int{1}, api.ErrLayerValue, 0, 1)
	}
	wantWrong(t, s, lists(given(long, "1")), []int{1}, api.ErrLayerName, 0, 0)
}

func FuzzMerge(f *testing.F) {
	f.Add("net.port", "9000", "log.level", "9", 1, 3)
	f.Add("a.b", "4k", "a0.w", "a,b", 2, 4)
	f.Add("debug", "on", "debug", "x", 4, 4)
	f.Add("", "", "net.prot", "1", 0, 5)
	f.Fuzz(func(t *testing.T, name, said, name2, said2 string, one, two int) {
		for _, s := range sets() {
			checkMerge(t, s, lists(given(name, said)), []int{one})
			checkMerge(t, s, lists(given(name, said, name2, said2), given(name2, said)), []int{one, two})
		}
	})
}
