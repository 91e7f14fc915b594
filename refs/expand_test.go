package refs_test

import (
	"strings"
	"testing"

	"tinderbox/api"
	"tinderbox/key"
	"tinderbox/layer"
	"tinderbox/refs"
)

// X2: the chapter's examples

func TestExpandExamples(t *testing.T) {
	wantTexts(t, standardWith(t, nil), texts{"net.url": "http://localhost:8080", "log.file": "/var/tinder/log", "net.host": "localhost", "store.dir": "/var/tinder"})
	wantTexts(t, standardWith(t, texts{"net.host": "$$${store.dir}"}), texts{"net.host": "$/var/tinder", "net.url": "http://$/var/tinder:8080"})
	wrong := texts{"net.host": "${net.url}"}
	wantWrong(t, standardWith(t, wrong), api.ErrRefsLoop, "net.host")
	wrong["log.file"] = "${net.host}"
	wantWrong(t, standardWith(t, wrong), api.ErrRefsLoop, "net.host")
	wrong["store.dir"] = "${x}"
	wantWrong(t, standardWith(t, wrong), api.ErrRefsName, "store.dir")
	wrong["net.url"] = "$"
	wantWrong(t, standardWith(t, wrong), api.ErrRefsForm, "net.url")
	wantWrong(t, standardWith(t, texts{"store.dir": strings.Repeat("d", 198)}), api.ErrRefsLong, "log.file")
}

// X2: settings of several sorts

func TestExpandOfNil(t *testing.T) {
	if e, name := refs.Expand(nil); e != api.ErrArg || name != "" {
		t.Errorf("Expand of nil: %d, %q", e, name)
	}
}

func TestExpandOfNoSettings(t *testing.T) {
	none, _, _, _ := layer.Merge(key.New(), nil, nil)
	for _, x := range []*layer.Settings{none, new(layer.Settings)} {
		wantTexts(t, x, nil)
	}
}

func TestExpandOfTheStandardSettings(t *testing.T) {
	x := standardWith(t, nil)
	before := x.All()
	wantTexts(t, x, nil)
	for i, one := range x.All() {
		switch one.Name {
		case "net.url":
			before[i].Value.Text = "http://localhost:8080"
		case "log.file":
			before[i].Value.Text = "/var/tinder/log"
		}
		if !alike(one, before[i]) {
			t.Errorf("%+v; not %+v", one, before[i])
		}
	}
}

func TestExpandOfOtherSets(t *testing.T) {
	x := merged(t, ownSet(), nil)
	wantTexts(t, x, texts{"a": "x", "a.b": "<x>", "a.b.c": "<x>false", "ab": "", longName: "$", "z": "$"})
	// What the standard set has, other ones need not have.
	wantWrong(t, merged(t, ownSet(), texts{"a": "${net.host}"}), api.ErrRefsName, "a")
	wantTexts(t, settingsOf(t, texts{"net.host": "h", "net.url": "${net.host}"}), texts{"net.url": "h"})
	// A definition that is added behind it bears upon nothing.
	s := ownSet()
	y := merged(t, s, texts{"a": "${later}"})
	s.Add(api.Key{Name: "later", Kind: api.Text})
	wantWrong(t, y, api.ErrRefsName, "a")
	wantTexts(t, merged(t, s, texts{"a": "${later}x"}), texts{"a": "x", "later": ""})
}

// A setting of each kind, as it is printed.
func TestReferencesToSettingsOfEachKind(t *testing.T) {
	for _, one := range []struct {
		name, want string
		v          api.Value
	}{
		{"no", "false", api.Value{Kind: api.Bool}},
		{"no", "true", api.Value{Kind: api.Bool, Int: 1}},
		{"num", "-7", api.Value{Kind: api.Int, Int: -7}},
		{"num", "-4611686018427387904", api.Value{Kind: api.Int, Int: -1 << 62}},
		{"size", "0", api.Value{Kind: api.Size}},
		{"size", "1536", api.Value{Kind: api.Size, Int: 1536}},
		{"size", "2m", api.Value{Kind: api.Size, Int: 2 << 20}},
		{"size", "1048576g", api.Value{Kind: api.Size, Int: 1 << 50}},
		{"span", "0s", api.Value{Kind: api.Span}},
		{"span", "90s", api.Value{Kind: api.Span, Int: 90}},
		{"span", "7d", api.Value{Kind: api.Span, Int: 7 * 86400}},
		{"w.none", "", words()},
		{"w.two", "b,a", words("b", "a")},
		{"w.two", "a.b,no,num", words("a.b", "no", "num")},
		{"ab", "", text("")},
		{"ab", "plain {text}", text("plain {text}")},
		{"ab", "$", text("$$")},
		{"ab", "false", text("${no}")},
	} {
		for _, form := range []string{"_", "<_>", "__", "$$_$$", "_,_,_"} {
			x := merged(t, ownSet(), nil)
			put(t, x, one.name, one.v, api.FromFile)
			put(t, x, "a", text(strings.ReplaceAll(form, "_", reference(one.name))), api.FromStore)
			put(t, x, "a.b", text(""), api.FromStore)
			want := strings.ReplaceAll(strings.ReplaceAll(form, "$$", "$"), "_", one.want)
			wantTexts(t, x, texts{"a": want})
		}
	}
}

func TestSettingsThatSpeakOfOneAnother(t *testing.T) {
	// A row of settings, in rising names and in falling ones.
	for _, row := range []string{"abcdefgh", "hgfedcba", "adgbehcf"} {
		given, want := texts{}, texts{}
		for i := range row {
			name := row[i : i+1]
			given[name], want[name] = name, name
			if i > 0 {
				given[name] += reference(row[i-1:i]) + "."
				want[name] += want[row[i-1:i]] + "."
			}
		}
		wantTexts(t, settingsOf(t, given), want)
	}
	// Several that speak of one; one that speaks of several, near and far.
	wantTexts(t, settingsOf(t, texts{"a": "${m}1", "b": "${m}2${a}", "m": "$$", "x": "${b}${a}${m}${b}", "z": "${m}3"}), texts{"a": "$1", "b": "$2$1", "m": "$", "x": "$2$1$1$$2$1", "z": "$3"})
}

// A row of as many settings as there may be, each of which speaks of the one ahead of it, or behind it.
func TestTheLongestRow(t *testing.T) {
	for _, step := range []int{-1, 1} {
		given, want := texts{}, texts{}
		for n := range 64 {
			given[numbered(n)] = "x" + reference(numbered(n+step))
			want[numbered(n)] = strings.Repeat("x", 64-n)
			if step < 0 {
				want[numbered(n)] = strings.Repeat("x", n+1)
			}
		}
		first, last := numbered(0), numbered(63)
		if step < 0 {
			first, last = last, first
		}
		given[last] = "x"
		wantTexts(t, settingsOf(t, given), want)
		given[last] = reference(first)
		wantWrong(t, settingsOf(t, given), api.ErrRefsLoop, numbered(0))
		given[last] = reference(last)
		wantWrong(t, settingsOf(t, given), api.ErrRefsLoop, last)
		given[last] = reference("none")
		wantWrong(t, settingsOf(t, given), api.ErrRefsName, last)
	}
}

// Each setting speaks of all ahead of it: there are more ways through them than could be gone.
func TestSettingsThatSpeakOfManyOthers(t *testing.T) {
	given, all := texts{}, ""
	for n := range 34 {
		given[numbered(n)] = all
		all += reference(numbered(n))
	}
	wantTexts(t, settingsOf(t, given), texts{numbered(0): "", numbered(33): ""})
	given[numbered(0)] = "x"
	// The lengths are 1, 1, 2, 4 and so on.
	wantWrong(t, settingsOf(t, given), api.ErrRefsLong, numbered(9))
	given[numbered(0)] = reference(numbered(33))
	wantWrong(t, settingsOf(t, given), api.ErrRefsLoop, numbered(0))
	given[numbered(0)], given[numbered(33)] = "x", reference("zz")+reference(numbered(32))
	given["zz"] = reference(numbered(33))
	wantWrong(t, settingsOf(t, given), api.ErrRefsLoop, numbered(33))
	given["zz"] = reference("zzz")
	wantWrong(t, settingsOf(t, given), api.ErrRefsName, "zz")
}

// X2: what `$$` stands for

func TestDoubledSigns(t *testing.T) {
	wantTexts(t, settingsOf(t, texts{"a": "$$", "b": "$$$$", "c": "$${a}", "d": "$$${a}", "e": "x$$y", "f": "$${no name}$${"}), texts{"a": "$", "b": "$$", "c": "${a}", "d": "$$", "e": "x$y", "f": "${no name}${"})
	// What a reference puts in is not looked at again, nor put together with what stands beside it.
	wantTexts(t, settingsOf(t, texts{"a": "$${b}", "b": "${a}", "c": "$$", "d": "${c}{a}", "e": "${c}${c}{a}", "f": "${c}$$"}), texts{"a": "${b}", "b": "${b}", "d": "${a}", "e": "$${a}", "f": "$$"})
}

// What Expand has made is plain text: another one reads it anew.
func TestAnotherExpand(t *testing.T) {
	x := standardWith(t, texts{"net.host": "$$${store.dir}"})
	wantTexts(t, x, texts{"net.host": "$/var/tinder"})
	wantWrong(t, x, api.ErrRefsForm, "net.host")
	wantWrong(t, x, api.ErrRefsForm, "net.host")

	x = standardWith(t, texts{"net.host": "$${store.dir}"})
	wantTexts(t, x, texts{"net.host": "${store.dir}", "net.url": "http://${store.dir}:8080"})
	wantTexts(t, x, texts{"net.host": "/var/tinder", "net.url": "http:///var/tinder:8080"})
	for range 3 {
		wantTexts(t, x, texts{"net.host": "/var/tinder", "net.url": "http:///var/tinder:8080", "log.file": "/var/tinder/log"})
	}

	x = settingsOf(t, texts{"a": "$${b}", "b": "$${a}", "c": "$$$$$$$$"})
	wantTexts(t, x, texts{"a": "${b}", "b": "${a}", "c": "$$$$"})
	wantWrong(t, x, api.ErrRefsLoop, "a")
	put(t, x, "b", text("$${c}"), api.FromRule)
	wantTexts(t, x, texts{"a": "${c}", "b": "${c}", "c": "$$"})
	wantTexts(t, x, texts{"a": "$", "b": "$", "c": "$"})
	wantWrong(t, x, api.ErrRefsForm, "a")
}

// X2: what stays

func TestOriginsAndOtherKindsStay(t *testing.T) {
	for from := range 6 {
		x := merged(t, ownSet(), nil)
		put(t, x, "a", text("${w.two}${num}"), from)
		put(t, x, "a.b", text("$$${a}"), (from+1)%6)
		put(t, x, "ab", text("plain"), (from+2)%6)
		put(t, x, "w.two", words("x", "y"), (from+3)%6)
		put(t, x, "num", api.Value{Kind: api.Int, Int: 5}, (from+4)%6)
		put(t, x, "no", api.Value{Kind: api.Bool, Int: 1}, (from+5)%6)
		before := x.All()
		wantTexts(t, x, texts{"a": "x,y5", "a.b": "$x,y5", "a.b.c": "$x,y5true"})
		for i, one := range x.All() {
			if one.From != before[i].From || one.Value.Kind != before[i].Value.Kind {
				t.Errorf("%+v; it was %+v", one, before[i])
			}
			if one.Value.Kind != api.Text && !alike(one, before[i]) {
				t.Errorf("%+v; it was %+v", one, before[i])
			}
		}
	}
}

// X2: errors

// Of several settings with one error the first by names is told.
func TestTheFirstSettingOfEachError(t *testing.T) {
	names := []string{"a", "a.b", "a.b.c", "a0", "ab", "b", longName, "m", "z.a"}
	for e, wrong := range map[api.Errno]func(name string) string{
		api.ErrRefsForm: func(string) string { return "${" },
		api.ErrRefsName: func(string) string { return "${none}" },
		api.ErrRefsLoop: reference,
		api.ErrRefsLong: func(string) string { return "$$" + strings.Repeat("${y.y}", 20) },
	} {
		for set := 1; set < 1<<len(names); set++ {
			given, first := texts{"y.y": "0123456789"}, ""
			for i, name := range names {
				given[name] = "right"
				if set>>i&1 == 1 {
					given[name] = wrong(name)
					if first == "" {
						first = name
					}
				}
			}
			wantWrong(t, settingsOf(t, given), e, first)
		}
	}
}

// Of several errors the one that the promise names first is told, wherever it stands.
func TestSeveralErrorsAtOnce(t *testing.T) {
	wrong := []struct {
		e    api.Errno
		text string
	}{{api.ErrRefsForm, "x${"}, {api.ErrRefsName, "${none}"}, {api.ErrRefsLoop, "${_}"}, {api.ErrRefsLong, strings.Repeat("${y}", 50)}, {api.OK, "right"}}
	names := []string{"a", "b", "c", "d"}
	for n := range 5 * 5 * 5 * 5 {
		given := texts{"y": "01234"}
		want, first := wrong[4].e, ""
		for _, name := range names {
			one := wrong[n%5]
			n /= 5
			given[name] = strings.ReplaceAll(one.text, "_", name)
			if one.e != api.OK && (want == api.OK || one.e < want) {
				want, first = one.e, name
			}
		}
		wantWrong(t, settingsOf(t, given), want, first)
	}
	// In one setting, too.
	long := strings.Repeat("${y}", 40)
	for s, e := range map[string]api.Errno{long + "${none}${a}$": api.ErrRefsForm, long + "${none}${a}": api.ErrRefsName, long + "${a}${none}": api.ErrRefsName, long + "${a}": api.ErrRefsLoop, long + "${b}": api.ErrRefsLong, long: api.OK} {
		x := settingsOf(t, texts{"a": s, "b": "x", "y": "01234"})
		if e == api.OK {
			wantTexts(t, x, nil)
		} else {
			wantWrong(t, x, e, "a")
		}
	}
}

func TestTextsThatAreNotWellFormed(t *testing.T) {
	for _, s := range []string{"$", "$x", "x$", "${", "${}", "${a", "${A}", "${a.b.c.d}", "$$$", "${a}$", "${" + longName + "x}", "${ab}${AB}", "${net.host}$"} {
		wantWrong(t, merged(t, ownSet(), texts{"ab": s}), api.ErrRefsForm, "ab")
		wantWrong(t, merged(t, ownSet(), texts{"ab": s, "z": s}), api.ErrRefsForm, "ab")
		wantWrong(t, merged(t, ownSet(), texts{"a": "${none}", "ab": s, "z": s}), api.ErrRefsForm, "ab")
	}
	// A definition's default is no better.
	s := ownSet()
	s.Add(api.Key{Name: "b", Kind: api.Text, Default: "$b"})
	wantWrong(t, merged(t, s, nil), api.ErrRefsForm, "b")
	wantTexts(t, merged(t, s, texts{"b": "$$b"}), texts{"b": "$b"})
}

func TestNamesThatStandForNothing(t *testing.T) {
	for _, name := range []string{"x", "a.c", "a.b.c2", "a.b2", "aa", "abc", "n", "nu", "nums", "w", "w.two.a", "net.host", longName[:31], longName[:30] + "yy", strings.Repeat("a", 32)} {
		for _, around := range []string{"_", "${a}_", "_${a}", "${ab}_", "$$_"} {
			wantWrong(t, merged(t, ownSet(), texts{"ab": strings.ReplaceAll(around, "_", reference(name))}), api.ErrRefsName, "ab")
		}
		// Behind a doubled sign no name is spoken of.
		wantTexts(t, merged(t, ownSet(), texts{"ab": "$" + reference(name)}), texts{"ab": reference(name)})
	}
}

func TestSettingsThatHangOnThemselves(t *testing.T) {
	wantWrong(t, settingsOf(t, texts{"a": "${a}"}), api.ErrRefsLoop, "a")
	wantWrong(t, settingsOf(t, texts{"a": "x", "b": "x${a}${b}"}), api.ErrRefsLoop, "b")
	wantWrong(t, settingsOf(t, texts{"a": "${b}", "b": "${a}"}), api.ErrRefsLoop, "a")
	wantWrong(t, settingsOf(t, texts{"a": "${b}", "b": "${b}"}), api.ErrRefsLoop, "b")
	wantWrong(t, settingsOf(t, texts{"a": "${b}", "b": "${c}", "c": "${b}"}), api.ErrRefsLoop, "b")
	wantWrong(t, settingsOf(t, texts{"a": "${c}", "b": "${c}", "c": "${d}", "d": "${e}", "e": "${c}"}), api.ErrRefsLoop, "c")
	// One that stands between two rounds, and one that hangs on two.
	wantWrong(t, settingsOf(t, texts{"b": "${d}", "c": "${c}${b}", "d": "${d}"}), api.ErrRefsLoop, "c")
	wantWrong(t, settingsOf(t, texts{"a": "${d}", "c": "${c}${a}", "d": "${e}", "e": "${d}"}), api.ErrRefsLoop, "c")
	wantWrong(t, settingsOf(t, texts{"a": "${b}${c}", "b": "${b}", "c": "${a}"}), api.ErrRefsLoop, "a")
	wantWrong(t, settingsOf(t, texts{"a": "${y}${z}", "y": "${y}", "z": "${z}"}), api.ErrRefsLoop, "y")
	// Two that speak of one are no round, nor is one that is spoken of twice.
	wantTexts(t, settingsOf(t, texts{"a": "${b}${c}${b}", "b": "${d}", "c": "${d}${b}", "d": "x"}), texts{"a": "xxxx"})
	wantTexts(t, settingsOf(t, texts{"a": "$${a}", "b": "$${b}${a}"}), texts{"a": "${a}", "b": "${b}${a}"})
	// A round of nothing is one.
	wantWrong(t, settingsOf(t, texts{"a": "", "b": "${c}", "c": "${b}"}), api.ErrRefsLoop, "b")
}

// Rounds of each length, with settings that lead to them, ahead of them and behind them by names.
func TestRounds(t *testing.T) {
	for length := 1; length <= 26; length++ {
		name := func(n int) string { return "m." + string(rune('a'+(n+length)%length)) }
		for _, step := range []int{1, -1} {
			given := texts{"a": reference("z"), "m": reference("a"), "z": "x" + reference(name(length/2)), "zz": "x"}
			for n := range length {
				given[name(n)] = "x" + reference(name(n+step)) + "${zz}"
			}
			wantWrong(t, settingsOf(t, given), api.ErrRefsLoop, "m.a")
			// Where one of it does not go on, there is none.
			given[name(length/3)] = "x"
			wantTexts(t, settingsOf(t, given), texts{name(length / 3): "x"})
		}
	}
}

// X2: how long an expansion may be

// lengths are settings of which texts may speak to be of some length.
func lengths(t *testing.T, a string) *layer.Settings {
	t.Helper()
	s := key.New()
	for _, k := range []api.Key{
		{Name: "a", Kind: api.Text},
		{Name: "b", Kind: api.Text},
		{Name: "far", Kind: api.Text, Default: "${half}${none}${half}"},
		{Name: "half", Kind: api.Text, Default: strings.Repeat("${ten}", 10)},
		{Name: "most", Kind: api.Text, Default: strings.Repeat("m", 200)},
		{Name: "nine", Kind: api.Text, Default: "123456789"},
		{Name: "none", Kind: api.Text},
		{Name: "num", Kind: api.Int, Default: "-4611686018427387904", Least: -1 << 62},
		{Name: "signs", Kind: api.Text, Default: strings.Repeat("$$", 100)},
		{Name: "ten", Kind: api.Text, Default: "0123456789"},
		{Name: "w", Kind: api.Words, Default: strings.Repeat("elevenbytes,", 15) + strings.Repeat("w", 20), Most: 16},
	} {
		if e := s.Add(k); e != api.OK {
			t.Fatalf("Add of %+v: %d", k, e)
		}
	}
	return merged(t, s, texts{"a": a})
}

func TestExpansionsOf200BytesAnd201(t *testing.T) {
	for _, a := range []string{
		strings.Repeat("${ten}", 20),
		strings.Repeat("${ten}", 19) + "${nine}x",
		"x${nine}" + strings.Repeat("${ten}", 19),
		"${most}", "${none}${most}${none}", "${far}", "${half}${half}", "${signs}${signs}", "${w}",
		strings.Repeat("${num}", 10),
		strings.Repeat("${num}${none}", 5) + "${half}",
		strings.Repeat("$$", 20) + strings.Repeat("${ten}", 18),
		strings.Repeat("${ten}", 18) + strings.Repeat("$$", 20),
		strings.Repeat("x", 190) + "${ten}",
		"${ten}" + strings.Repeat("x", 190),
		"${half}" + strings.Repeat("$$", 80) + "yyyyyyyyyyyyyyyyyyyy",
	} {
		x := lengths(t, a)
		put(t, x, "b", text("${a}${none}"), api.FromFlag)
		wantTexts(t, x, nil)
		one, _ := x.Get("a")
		other, _ := x.Get("b")
		if len(one.Value.Text) != 200 || other.Value.Text != one.Value.Text {
			t.Errorf("%q becomes %d bytes, and %d", a, len(one.Value.Text), len(other.Value.Text))
		}
		for _, longer := range []string{a + "y", "y" + a, a + "$$"} {
			if len(longer) <= 200 {
				wantWrong(t, lengths(t, longer), api.ErrRefsLong, "a")
			}
		}
		// One more byte in what speaks of it.
		for _, b := range []string{"${a}y", "y${a}", "${a}$$", "${a}${num}", "${none}${a}${a}", "${a}${none}y"} {
			x = lengths(t, a)
			put(t, x, "b", text(b), api.FromFlag)
			wantWrong(t, x, api.ErrRefsLong, "b")
		}
	}
}

// A text may have as many bytes as it likes to make few of: its own length bears upon nothing.
func TestLongTextsOfShortExpansions(t *testing.T) {
	for a, want := range map[string]string{
		strings.Repeat("$$", 100):     strings.Repeat("$", 100),
		strings.Repeat("${none}", 28): "",
		strings.Repeat("${b}", 50):    "",
		strings.Repeat("x", 200):      strings.Repeat("x", 200),
		strings.Repeat("{", 200):      strings.Repeat("{", 200),
	} {
		wantTexts(t, lengths(t, a), texts{"a": want})
	}
}

// What speaks of one that would be too long would be, too: the first of them by names is told, wherever the length comes from.
func TestTheFirstOfThoseThatAreTooLong(t *testing.T) {
	long := strings.Repeat("x", 195) + "${f}"
	for _, one := range []struct {
		given texts
		first string
	}{
		{texts{"a": "x", "b": long, "c": "x"}, "b"},
		{texts{"a": "${b}", "b": long, "c": "x"}, "a"},
		{texts{"a": "${c}", "b": "${c}", "c": "${d}", "d": long}, "a"},
		{texts{"a": "x", "b": "${c}", "c": "${d}", "d": long}, "b"},
		{texts{"a": "x", "b": "x", "c": "${b}", "d": long, "e": "${d}"}, "d"},
		{texts{"a": "", "b": long, "c": "${b}", "d": "${a}", "e": long}, "b"},
		{texts{"a": "", "b": "${z}", "z": long}, "b"},
	} {
		one.given["f"] = "123456"
		wantWrong(t, settingsOf(t, one.given), api.ErrRefsLong, one.first)
		one.given["f"] = "12345"
		wantTexts(t, settingsOf(t, one.given), nil)
	}
}

// Expansions that would be longer than any memory are told at once; those of nothing are nothing, however often they stand.
func TestExpansionsLongerThanAnyMemory(t *testing.T) {
	for _, times := range []int{2, 3, 25} {
		for _, rising := range []bool{true, false} {
			for _, end := range []string{"", "x", "xyz"} {
				given, first := texts{}, ""
				for n, length := 0, len(end); n < 64; n++ {
					at, next := n, n-1
					if rising {
						at, next = 63-n, 64-n
					}
					given[numbered(at)] = strings.Repeat(reference(numbered(next)), times)
					if n == 0 {
						given[numbered(at)] = end
					}
					if length > 200 && (first == "" || rising) {
						first = numbered(at)
					}
					length = min(length*times, 1000)
				}
				if x := settingsOf(t, given); end == "" {
					wantTexts(t, x, texts{numbered(0): "", numbered(63): ""})
				} else {
					wantWrong(t, x, api.ErrRefsLong, first)
				}
			}
		}
	}
}
