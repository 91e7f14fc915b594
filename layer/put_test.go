package layer_test

import (
	"math"
	"slices"
	"strings"
	"testing"

	"tinderbox/api"
	"tinderbox/key"
	"tinderbox/layer"
)

// L2

func TestGetOfWhatIsThereAndOfWhatIsNot(t *testing.T) {
	x, _ := merged(t, key.Standard(), lists(given("net.port", "9000", "net.peers", "a,b"), given("log.file", "/x")), []int{1, 4})
	wantHeld(t, x, "net.port", integer(9000), api.FromFile)
	wantHeld(t, x, "net.peers", words("a", "b"), api.FromFile)
	wantHeld(t, x, "log.file", text("/x"), api.FromFlag)
	wantHeld(t, x, "net.host", text("localhost"), api.FromDefault)
	wantHeld(t, x, "boot.dry", api.Value{Kind: api.Bool}, api.FromDefault)
	wantHeld(t, x, "store.cache", api.Value{Kind: api.Size, Int: 4 << 20}, api.FromDefault)
	wantHeld(t, x, "log.keep", api.Value{Kind: api.Span, Int: 7 * 86400}, api.FromDefault)
	for _, name := range []string{"", " ", ".", "net", "net.", "net.prot", "net.port.x", "Net.port", "net.port ", "\x00", "\xff", "a", "z", strings.Repeat("net.port", 1<<17)} {
		if one, ok := x.Get(name); ok || !alike(one, api.Setting{}) || one.Value.Words != nil {
			t.Errorf("Get of %.60q: %+v, %t", name, one, ok)
		}
	}
}

func TestAllIsByRisingNames(t *testing.T) {
	names := []string{"a", "a.a", "a.a.z", "a.a0", "a.b", "a.z", "a0", "a0.a", "a9", "aa", "aa.a", "az", "b", "b.a", "z.a.a", "z9"}
	for _, step := range []int{1, 3, 5, 11, 15} {
		s := key.New()
		var list []api.Given
		for i := range names {
			name := names[(i+1)*step%len(names)]
			if e := s.Add(api.Key{Name: name, Kind: api.Text}); e != api.OK {
				t.Fatal(e)
			}
			list = append(list, given(name, "of "+name)...)
		}
		x, m := merged(t, s, lists(list[3:]), []int{2})
		m.wantPut(t, x, names[0], text("put"), 5, api.OK)
		for i, one := range x.All() {
			if one.Name != names[i] {
				t.Errorf("All, at %d: %+v; not %s", i, one, names[i])
			}
		}
	}
}

// L3: the chapter's examples

func TestPutExamples(t *testing.T) {
	x, m := merged(t, key.Standard(), nil, nil)
	m.wantPut(t, x, "net.port", integer(5), 5, api.OK)
	wantHeld(t, x, "net.port", integer(5), api.FromRule)
	m.wantPut(t, x, "net.port", integer(0), 5, api.ErrLayerValue)
	m.wantPut(t, x, "net.port", api.Value{Kind: api.Size, Int: 5}, 5, api.ErrLayerValue)
	m.wantPut(t, x, "net.port", integer(5), 6, api.ErrArg)
	m.wantPut(t, x, "net.prot", integer(5), 6, api.ErrLayerName)
	wantHeld(t, x, "net.port", integer(5), api.FromRule)
}

// L3: values

// someValues are of each kind and of none, right and not.
func someValues() []api.Value {
	values := []api.Value{
		{}, {Kind: 7}, {Kind: -1}, {Kind: 1 << 32, Int: 1}, {Kind: 258, Int: 5}, {Int: 5}, {Text: "x"}, {Words: []string{"a", "b"}},
		text(""), text("x"), text(" ~"), text("${x}"), text(strings.Repeat("x", 200)), text(strings.Repeat("x", 201)), text("\n"), text("\x7f"), text("\u00e4"), text("\xff"), text(strings.Repeat("x", 1<<20)),
		words(), words("a"), words("a", "b"), words("a", "b", "c"), words("a", "b", "c", "d"), words(""), words("a", "B"), words("a", ""), words("a,b"), words("a", "b c"), words(strings.Repeat("w", 32), "x"), words(strings.Repeat("w", 33), "x"),
		words(slices.Repeat([]string{"w"}, 16)...), words(slices.Repeat([]string{"w"}, 17)...), words(slices.Repeat([]string{"w"}, 1<<16)...), words(slices.Repeat([]string{strings.Repeat("w", 32)}, 7)...),
	}
	for _, kind := range []int{api.Bool, api.Int, api.Size, api.Span, api.Text, api.Words} {
		for _, n := range []int{math.MinInt, -1<<62 - 1, -1 << 62, -10, -9, -1, 0, 1, 2, 5, 6, 9, 10, 29, 30, 31, 511, 512, 3600, 3601, 65535, 65536, 65537, 2592000, 2592001, 1 << 30, 1<<30 + 1, 1 << 40, 1<<40 + 1, 1 << 50, 1<<50 + 1, 1 << 62, 1<<62 + 1, math.MaxInt} {
			values = append(values, api.Value{Kind: kind, Int: n})
		}
		values = append(values, api.Value{Kind: kind, Int: 1, Text: "x"}, api.Value{Kind: kind, Int: 1, Words: []string{"a"}}, api.Value{Kind: kind, Text: "x", Words: []string{"a", "b"}}, api.Value{Kind: kind, Int: 5, Words: []string{}})
	}
	return values
}

// Each value is put into each setting, from each origin and from what is none.
func TestPutOfManyValues(t *testing.T) {
	for _, s := range sets() {
		x, m := merged(t, s, nil, nil)
		counts := map[api.Errno]int{}
		for _, v := range someValues() {
			for _, k := range s.All() {
				for _, from := range []int{-1, 0, 1, 2, 3, 4, 5, 6} {
					want := m.put(k.Name, v, from)
					if e := x.Put(k.Name, v, from); e != want {
						t.Errorf("Put of %q, %+v, from %d: %d, not %d", k.Name, v, from, e, want)
					}
					if one, _ := x.Get(k.Name); !alike(one, m.held[k.Name]) {
						t.Errorf("behind Put of %q, %+v, from %d: %+v, not %+v", k.Name, v, from, one, m.held[k.Name])
					}
					counts[want]++
				}
				if e := x.Put(k.Name+"x", v, 1); e != api.ErrLayerName {
					t.Errorf("Put of %q: %d", k.Name+"x", e)
				}
			}
			m.check(t, x)
			m.checkValues(t, x)
		}
		if counts[api.OK] < 500 || counts[api.ErrLayerValue] < 10_000 || counts[api.ErrArg] < 200 {
			t.Errorf("how often each was answered: %v", counts)
		}
	}
}

func TestBoundsOfWhatIsPut(t *testing.T) {
	for _, s := range sets() {
		x, m := merged(t, s, nil, nil)
		for _, k := range s.All() {
			of := func(n int) api.Value { return api.Value{Kind: k.Kind, Int: n} }
			switch k.Kind {
			case api.Bool, api.Text:
				continue
			case api.Words:
				of = func(n int) api.Value { return words(slices.Repeat([]string{"w"}, n)...) }
			}
			m.wantPut(t, x, k.Name, of(k.Least), 1, api.OK)
			wantHeld(t, x, k.Name, of(k.Least), 1)
			m.wantPut(t, x, k.Name, of(k.Most), 2, api.OK)
			wantHeld(t, x, k.Name, of(k.Most), 2)
			m.wantPut(t, x, k.Name, of(k.Most+1), 3, api.ErrLayerValue)
			if k.Kind != api.Words || k.Least > 0 {
				m.wantPut(t, x, k.Name, of(k.Least-1), 3, api.ErrLayerValue)
			}
			wantHeld(t, x, k.Name, of(k.Most), 2)
		}
	}
}

func TestPutOfEachKind(t *testing.T) {
	x, m := merged(t, key.Standard(), nil, nil)
	for name, v := range map[string]api.Value{
		"boot.dry": {Kind: api.Bool, Int: 1}, "log.level": integer(0), "store.page": {Kind: api.Size, Int: 512}, "net.timeout": {Kind: api.Span, Int: 3600}, "net.url": text("a $ b"), "boot.services": words("net", "log", "net"),
	} {
		for from := range 6 {
			m.wantPut(t, x, name, v, from, api.OK)
			wantHeld(t, x, name, v, from)
		}
		for other := range 8 {
			if wrong := v; other != v.Kind {
				wrong.Kind = other
				m.wantPut(t, x, name, wrong, 1, api.ErrLayerValue)
			}
		}
		wantHeld(t, x, name, v, 5)
	}
}

// Of Bool and Text no bounds are asked for.
func TestPutOfKindsWithoutBounds(t *testing.T) {
	x, m := merged(t, key.Standard(), nil, nil)
	for _, n := range []int{1, 0} {
		m.wantPut(t, x, "boot.dry", api.Value{Kind: api.Bool, Int: n}, 4, api.OK)
	}
	for _, n := range []int{-1, 2, math.MaxInt, math.MinInt} {
		m.wantPut(t, x, "boot.dry", api.Value{Kind: api.Bool, Int: n}, 4, api.ErrLayerValue)
	}
	for _, length := range []int{0, 1, 199, 200} {
		m.wantPut(t, x, "net.host", text(strings.Repeat("h", length)), 4, api.OK)
	}
	for _, length := range []int{201, 202, 256, 1 << 20} {
		m.wantPut(t, x, "net.host", text(strings.Repeat("h", length)), 4, api.ErrLayerValue)
	}
}

// L3: origins

func TestOriginsOfWhatIsPut(t *testing.T) {
	x, m := merged(t, key.Standard(), nil, nil)
	for from := range 6 {
		m.wantPut(t, x, "net.port", integer(from+1), from, api.OK)
		wantHeld(t, x, "net.port", integer(from+1), from)
		for _, wrong := range []int{-1, 6, 7, math.MinInt, math.MaxInt, 1 << 32, 1<<32 + 1, 256, 257, -5} {
			m.wantPut(t, x, "net.port", integer(9), wrong, api.ErrArg)
			wantHeld(t, x, "net.port", integer(from+1), from)
		}
	}
	// A lower origin than the one that is there is as good: nothing asks which was first.
	m.wantPut(t, x, "net.port", integer(77), api.FromDefault, api.OK)
	wantHeld(t, x, "net.port", integer(77), api.FromDefault)
}

// L3: errors

// Of several errors the name is told first, the value then, the origin last; and with each of them nothing is changed.
func TestSeveralErrorsOfPutAtOnce(t *testing.T) {
	x, m := merged(t, key.Standard(), lists(given("net.port", "3")), []int{1})
	right, wrong := integer(5), integer(0)
	for _, name := range []string{"net.prot", "", "net", "NET.PORT"} {
		for _, v := range []api.Value{right, wrong, {}, {Kind: 9}} {
			for _, from := range []int{0, 5, 6, -1} {
				m.wantPut(t, x, name, v, from, api.ErrLayerName)
			}
		}
	}
	for _, v := range []api.Value{wrong, {}, {Kind: 9}, {Kind: api.Size, Int: 5}, {Kind: api.Int, Int: 5, Text: "x"}} {
		for _, from := range []int{0, 5, 6, -1} {
			m.wantPut(t, x, "net.port", v, from, api.ErrLayerValue)
		}
	}
	for _, from := range []int{6, -1} {
		m.wantPut(t, x, "net.port", right, from, api.ErrArg)
	}
	wantHeld(t, x, "net.port", integer(3), api.FromFile)
	for _, from := range []int{0, 5} {
		m.wantPut(t, x, "net.port", right, from, api.OK)
	}
}

func TestPutOfOneSettingChangesNoOtherOne(t *testing.T) {
	for _, s := range sets() {
		x, _ := merged(t, s, nil, nil)
		for i, k := range s.All() {
			before := x.All()
			v := before[i].Value
			if e := x.Put(k.Name, v, 1+i%5); e != api.OK {
				t.Errorf("Put of what is there: %d", e)
			}
			before[i].From = 1 + i%5
			if all := x.All(); !slices.EqualFunc(all, before, alike) {
				t.Errorf("behind Put of %q: %+v; not %+v", k.Name, all, before)
			}
		}
	}
}

// L4

func TestACopyIsTheSame(t *testing.T) {
	for _, s := range sets() {
		x, m := merged(t, s, nil, nil)
		for _, k := range s.All() {
			m.check(t, x.Copy())
			m.check(t, x.Copy().Copy())
			v := m.held[k.Name].Value
			m.wantPut(t, x, k.Name, v, 3, api.OK)
		}
		m.check(t, x.Copy())
	}
}

// What is put into either one the other has not; whichever of them was put into first.
func TestWhatIsPutIntoACopyAndIntoWhatItIsOf(t *testing.T) {
	for _, k := range key.Standard().All() {
		x, m := merged(t, key.Standard(), lists(given("net.port", "3", "net.peers", "a,b")), []int{1})
		y, of := x.Copy(), m.copied()
		if x == y {
			t.Fatal("a copy is what it is of")
		}
		v := m.held[k.Name].Value
		m.wantPut(t, x, k.Name, v, 5, api.OK)
		of.check(t, y)
		of.wantPut(t, y, k.Name, v, 4, api.OK)
		m.check(t, x)
		of.wantPut(t, y, "net.peers", words("c"), 2, api.OK)
		of.wantPut(t, y, "net.host", text("y"), 2, api.OK)
		m.check(t, x)
		m.wantPut(t, x, "net.peers", words("d", "e"), 2, api.OK)
		m.wantPut(t, x, "net.port", integer(9), 2, api.OK)
		of.check(t, y)
	}
}

func TestCopiesOfCopies(t *testing.T) {
	first, m := merged(t, ownSet(), nil, nil)
	all, models := []*layer.Settings{first}, []model{m}
	r := numbers(1)
	for range 300 {
		at := r.next() % len(all)
		if len(all) < 12 {
			all, models = append(all, all[at].Copy()), append(models, models[at].copied())
		}
		k := m.keys[r.next()%len(m.keys)]
		models[at].checkPut(t, all[at], k.Name, r.value(k), r.next()%6)
		for i, x := range all {
			models[i].check(t, x)
		}
	}
}

// Settings that were assigned from others are ones of their own.
func TestAssignedSettings(t *testing.T) {
	x, m := merged(t, key.Standard(), nil, nil)
	assigned, of := *x, m.copied()
	m.wantPut(t, x, "net.port", integer(1), 1, api.OK)
	of.check(t, &assigned)
	of.wantPut(t, &assigned, "net.port", integer(2), 2, api.OK)
	m.check(t, x)
	*x = assigned
	of.check(t, x)
	of.copied().wantPut(t, &assigned, "log.level", integer(0), 2, api.OK)
	of.check(t, x)
}

// Settings that no call gave have none.
func TestSettingsThatNoCallGave(t *testing.T) {
	x, m := new(layer.Settings), model{}
	m.check(t, x)
	m.wantPut(t, x, "net.port", integer(1), 1, api.ErrLayerName)
	m.wantPut(t, x, "", api.Value{}, -1, api.ErrLayerName)
	m.check(t, x.Copy())
}
