package refs_test

import (
	"maps"
	"slices"
	"strings"
	"testing"

	"tinderbox/api"
	"tinderbox/env"
	"tinderbox/flag"
	"tinderbox/key"
	"tinderbox/layer"
	"tinderbox/refs"
)

// X3, P2, P4

// plainTexts are texts that speak of nothing. What is called so in them is no setting.
var plainTexts = []string{"", "x", "$$", "a.b", "{q}", "}", " ", "$${q}", strings.Repeat("y", 70)}

// text is one of some pieces and of some hundred bytes at most, which speaks of some of names.
func (x *numbers) text(names []string, most int) string {
	s := ""
	for range x.next() % (most + 1) {
		piece := x.pick(plainTexts)
		if len(names) > 0 && x.next()%2 == 0 {
			piece = reference(x.pick(names))
		}
		if len(s)+len(piece) <= 100 {
			s += piece
		}
	}
	return s
}

// value is one of a kind other than Text.
func (x *numbers) value(kind int) api.Value {
	switch kind {
	case api.Bool:
		return api.Value{Kind: kind, Int: x.next() % 2}
	case api.Words:
		return words([]string{"a", "no", "b.c", "-"}[:x.next()%5]...)
	}
	return api.Value{Kind: kind, Int: x.next() % 100000}
}

// fill puts something into each setting. If all is to be right, texts speak of those behind them in a row of their own alone, so that no round comes to be.
func (x *numbers) fill(t *testing.T, s *layer.Settings, right bool) {
	t.Helper()
	all := s.All()
	row := make([]string, len(all))
	for i, at := range x.row(len(all)) {
		row[at] = all[i].Name
	}
	for _, one := range all {
		from := x.next() % 6
		if one.Value.Kind != api.Text {
			// What lies out of its bounds is refused, and nothing is put.
			s.Put(one.Name, x.value(one.Value.Kind), from)
			continue
		}
		names, end := row[slices.Index(row, one.Name)+1:], ""
		if !right {
			names = slices.Concat(names, row[:2])
			end = []string{15: "${none}", 16: "$", 17: ""}[x.next()%18]
		}
		put(t, s, one.Name, text(x.text(names, 4)+end), from)
	}
}

// row is some order of so many places.
func (x *numbers) row(count int) []int {
	row := make([]int, count)
	for i := range row {
		at := x.next() % (i + 1)
		row[i], row[at] = row[at], i
	}
	return row
}

// manySettings are settings that are filled one way and another.
func manySettings(t *testing.T, seed, count int, right bool, use func(r *numbers, x *layer.Settings)) {
	t.Helper()
	r := numbers(seed)
	few := settingsOf(t, texts{"a": "", "a.b": "", "b": "", "c": "", "d": ""})
	for _, x := range []*layer.Settings{standardWith(t, nil), merged(t, ownSet(), nil), few} {
		for range count {
			x = x.Copy()
			r.fill(t, x, right)
			use(&r, x)
		}
	}
}

// Whatever settings say, Expand answers what the chapter says; and all that it may answer comes up.
func TestRandomSettings(t *testing.T) {
	told := map[api.Errno]int{}
	manySettings(t, 1, 1500, false, func(_ *numbers, x *layer.Settings) {
		e, _ := checkExpand(t, x.Copy())
		told[e]++
	})
	manySettings(t, 2, 500, true, func(_ *numbers, x *layer.Settings) {
		e, _ := checkExpand(t, x.Copy())
		told[e]++
	})
	for _, e := range []api.Errno{api.OK, api.ErrRefsForm, api.ErrRefsName, api.ErrRefsLoop, api.ErrRefsLong} {
		if told[e] < 50 {
			t.Errorf("%d was told %d times", e, told[e])
		}
	}
}

// All ways in which a few settings may speak of one another, and of themselves.
func TestAllFewSettings(t *testing.T) {
	for _, names := range [][]string{{"a"}, {"a", "b"}, {"a", "b", "c"}, {"a", "a.b", "b", "c.d"}} {
		count, given := len(names), texts{}
		for _, name := range names {
			given[name] = ""
		}
		x := settingsOf(t, given)
		for which := range 1 << (count * count) {
			y := x.Copy()
			for i, name := range names {
				s := name[:1]
				for at, other := range names {
					if which>>(i*count+at)&1 == 1 {
						s += reference(other)
					}
				}
				put(t, y, name, text(s+"$$"), api.FromStore)
			}
			checkExpand(t, y)
		}
	}
}

// The order in which settings are expanded bears upon nothing: with other names, in any order, they become the same, or as wrong.
func TestNamesDoNotMatter(t *testing.T) {
	r := numbers(10)
	names := []string{"a", "b", "c.d", "c.d.e", "e", "f0", "g"}
	for n := range 400 {
		given := texts{}
		for i, name := range names {
			given[name] = r.text(names[i+1:], 4)
		}
		if n%4 == 0 {
			given[r.pick(names)] += r.pick([]string{"${a}", "${none}", "$", strings.Repeat("${b}", 10)})
		}
		x := settingsOf(t, given)
		e, _ := checkExpand(t, x)
		for range 6 {
			row := r.row(len(names))
			renamed := func(s string) string {
				for i, name := range names {
					s = strings.ReplaceAll(s, reference(name), reference(numbered(row[i])))
				}
				return s
			}
			other := texts{}
			for i, name := range names {
				other[numbered(row[i])] = renamed(given[name])
			}
			y := settingsOf(t, other)
			if otherE, _ := checkExpand(t, y); otherE != e {
				t.Errorf("Expand of %q: %d; of %q: %d", given, e, other, otherE)
			}
			for i, name := range names {
				one, _ := x.Get(name)
				if now, _ := y.Get(numbered(row[i])); e == api.OK && now.Value.Text != one.Value.Text {
					t.Errorf("%q becomes %q; with other names %q", given[name], one.Value.Text, now.Value.Text)
				}
			}
		}
	}
}

// Nor does the order in which definitions were added, or texts given.
func TestTheOrderOfDefinitionsDoesNotMatter(t *testing.T) {
	r := numbers(20)
	names := []string{"a", "b", "c.d", "e", "f", "g"}
	for range 200 {
		given := texts{}
		for i, name := range names {
			given[name] = r.text(append(names[i+1:], "num"), 3)
		}
		var want []api.Setting
		for range 4 {
			s := key.New()
			var list []api.Given
			for _, at := range r.row(len(names)) {
				s.Add(api.Key{Name: names[at], Kind: api.Text})
				list = append(list, api.Given{Name: names[at], Text: given[names[at]]})
			}
			s.Add(api.Key{Name: "num", Kind: api.Int, Default: "5", Most: 9})
			x, _, _, _ := layer.Merge(s, [][]api.Given{list}, []int{api.FromFile})
			if e, _ := checkExpand(t, x); e != api.OK {
				continue
			}
			if want != nil && !allAlike(x.All(), want) {
				t.Errorf("%+v; %+v", x.All(), want)
			}
			want = x.All()
		}
	}
}

// No text hangs on a setting that it does not lead to: put something else there, and it becomes the same.
func TestWhatATextDoesNotLeadTo(t *testing.T) {
	held := 0
	manySettings(t, 30, 150, true, func(r *numbers, x *layer.Settings) {
		leads := modelOf(x.All()).leadsTo()
		first := x.Copy()
		if e, _ := refs.Expand(first); e != api.OK {
			return
		}
		for _, other := range x.All() {
			y := x.Copy()
			v := text(r.text(nil, 3))
			if other.Value.Kind != api.Text {
				v = r.value(other.Value.Kind)
			}
			if y.Put(other.Name, v, 5) != api.OK {
				continue
			}
			if e, _ := refs.Expand(y); e != api.OK {
				continue
			}
			for _, one := range first.All() {
				if one.Name == other.Name || slices.Contains(leads[one.Name], other.Name) {
					continue
				}
				if now, _ := y.Get(one.Name); !alike(now, one) {
					t.Errorf("%+v was %+v, with another %s", now, one, other.Name)
				}
				held++
			}
		}
	})
	if held < 5000 {
		t.Errorf("%d were held against one another", held)
	}
}

// P4: a setting with what it leads to, in a set of their own, becomes what it becomes among all others.
func TestATextWithWhatItLeadsToAlone(t *testing.T) {
	manySettings(t, 40, 100, true, func(_ *numbers, x *layer.Settings) {
		leads := modelOf(x.All()).leadsTo()
		before := x.Copy()
		if e, _ := refs.Expand(x); e != api.OK {
			return
		}
		for _, one := range x.All() {
			s := key.New()
			for _, name := range append(leads[one.Name], one.Name) {
				of, _ := before.Get(name)
				s.Add(api.Key{Name: name, Kind: of.Value.Kind, Default: map[int]string{api.Bool: "no", api.Int: "0", api.Size: "0", api.Span: "0"}[of.Value.Kind], Most: map[int]int{api.Int: 1 << 40, api.Size: 1 << 40, api.Span: 1 << 40, api.Words: 16}[of.Value.Kind]})
			}
			y, _, _, _ := layer.Merge(s, nil, nil)
			for _, k := range s.All() {
				of, _ := before.Get(k.Name)
				put(t, y, k.Name, of.Value, of.From)
			}
			if e, _ := refs.Expand(y); e != api.OK {
				t.Errorf("Expand of %+v: %d", y.All(), e)
			}
			if alone, _ := y.Get(one.Name); !alike(alone, one) {
				t.Errorf("alone it is %+v; not %+v", alone, one)
			}
		}
	})
}

// P4: from where texts are given that others speak of is theirs alone; the highest origin counts for all that speak of them.
func TestTheHighestOriginIsSpokenOf(t *testing.T) {
	s := key.Standard()
	file := []api.Given{{Name: "net.host", Text: "${none}"}, {Name: "net.port", Text: "9000"}, {Name: "log.file", Text: "$"}}
	told, _, _ := env.Parse(s, []string{"HOME=${HOME}", "NET_HOST=${log.level}.${net.peers}", "LOG_FILE=${net.url}"})
	args, _, _ := flag.Parse(s, []string{"-p", "9002", "--net.peers=a,b"})
	x, _, _, _ := layer.Merge(s, [][]api.Given{file, told, args.Given}, []int{api.FromFile, api.FromEnv, api.FromFlag})
	wantTexts(t, x, texts{"net.host": "2.a,b", "net.url": "http://2.a,b:9002", "log.file": "http://2.a,b:9002"})
	for name, from := range map[string]int{"net.host": api.FromEnv, "net.port": api.FromFlag, "net.url": api.FromDefault, "log.file": api.FromEnv, "log.level": api.FromDefault} {
		if one, _ := x.Get(name); one.From != from {
			t.Errorf("%s is from %d; not %d", name, one.From, from)
		}
	}
	// What lower origins say is not even read.
	x, _, _, _ = layer.Merge(s, [][]api.Given{file, told[1:], args.Given}, []int{api.FromFile, api.FromEnv, api.FromFlag})
	wantWrong(t, x, api.ErrRefsName, "net.host")
}

// Of settings of which no Text has a dollar sign Expand changes nothing; nor, if it left none, does another one.
func TestWithoutADollarSignNothingIsChanged(t *testing.T) {
	manySettings(t, 50, 200, true, func(_ *numbers, x *layer.Settings) {
		if e, _ := refs.Expand(x); e != api.OK {
			return
		}
		for _, one := range x.All() {
			if one.Value.Kind == api.Text {
				put(t, x, one.Name, text(strings.ReplaceAll(one.Value.Text, "$", "")), one.From)
			}
		}
		before := x.All()
		for range 2 {
			wantTexts(t, x, nil)
			if !allAlike(x.All(), before) {
				t.Errorf("%+v; it was %+v", x.All(), before)
			}
		}
	})
}

// What Names tells are the settings that a text hangs on: with all others away it is expanded, with one of them away it is not.
func TestNamesAreWhatATextSpeaksOf(t *testing.T) {
	r := numbers(60)
	names := []string{"a", "a.b", "c", longName}
	for range 500 {
		s := r.text(names, 6)
		spoken, e := refs.Names(s)
		if e != api.OK {
			t.Fatalf("Names of %q: %d", s, e)
		}
		given := texts{"z": s}
		for _, name := range spoken {
			given[name] = "x"
		}
		wantTexts(t, settingsOf(t, given), nil)
		for _, name := range spoken {
			less := maps.Clone(given)
			delete(less, name)
			wantWrong(t, settingsOf(t, less), api.ErrRefsName, "z")
		}
	}
}
