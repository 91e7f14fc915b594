package layer_test

import (
	"fmt"
	"maps"
	"slices"
	"strings"
	"testing"

	"tinderbox/api"
	"tinderbox/key"
	"tinderbox/layer"
	"tinderbox/value"
)

// The chapter's words once more: a definition is looked for in a list, from its front on; what is given for it is looked for in the last list first, from its end on.

// rising are all lists of origins that give lists, and rise.
var rising = [][]int{{}, {1}, {2}, {3}, {4}, {1, 2}, {1, 3}, {1, 4}, {2, 3}, {2, 4}, {3, 4}, {1, 2, 3}, {1, 2, 4}, {1, 3, 4}, {2, 3, 4}, {1, 2, 3, 4}}

func risesByWords(from []int) bool {
	return slices.ContainsFunc(rising, func(one []int) bool { return slices.Equal(one, from) })
}

// model is what settings hold, by their names, and of which definitions they are.
type model struct {
	keys []api.Key
	held map[string]api.Setting
}

func defined(keys []api.Key, name string) (api.Key, bool) {
	at := slices.IndexFunc(keys, func(k api.Key) bool { return k.Name == name })
	if at < 0 {
		return api.Key{}, false
	}
	return keys[at], true
}

// mayBe: may a value be that of a definition's setting?
func mayBe(k api.Key, v api.Value) bool {
	n := v.Int
	switch k.Kind {
	case api.Bool, api.Text:
		return v.Kind == k.Kind && value.Right(v)
	case api.Words:
		n = len(v.Words)
	}
	return v.Kind == k.Kind && value.Right(v) && n >= k.Least && n <= k.Most
}

func refusedByWords(keys []api.Key, g api.Given) api.Errno {
	k, ok := defined(keys, g.Name)
	if !ok {
		return api.ErrLayerName
	}
	if v, e := value.Parse(k.Kind, g.Text); e != api.OK || !mayBe(k, v) {
		return api.ErrLayerValue
	}
	return api.OK
}

func mergedByWords(keys []api.Key, l [][]api.Given, from []int) (model, api.Errno, int, int) {
	if len(l) != len(from) || !risesByWords(from) {
		return model{}, api.ErrArg, 0, 0
	}
	for i, list := range l {
		for at, g := range list {
			if e := refusedByWords(keys, g); e != api.OK {
				return model{}, e, i, at
			}
		}
	}
	m := model{keys: keys, held: map[string]api.Setting{}}
	for _, k := range keys {
		m.held[k.Name] = highest(k, l, from)
	}
	return m, api.OK, 0, 0
}

func highest(k api.Key, l [][]api.Given, from []int) api.Setting {
	text, origin := k.Default, 0
	for i := len(l) - 1; i >= 0 && origin == 0; i-- {
		for at := len(l[i]) - 1; at >= 0 && origin == 0; at-- {
			if l[i][at].Name == k.Name {
				text, origin = l[i][at].Text, from[i]
			}
		}
	}
	v, _ := value.Parse(k.Kind, text)
	return api.Setting{Name: k.Name, Value: v, From: origin}
}

// put puts into the model, and tells what Put must answer.
func (m model) put(name string, v api.Value, from int) api.Errno {
	k, ok := defined(m.keys, name)
	switch {
	case !ok:
		return api.ErrLayerName
	case !mayBe(k, v):
		return api.ErrLayerValue
	case !slices.Contains([]int{0, 1, 2, 3, 4, 5}, from):
		return api.ErrArg
	}
	v.Words = slices.Clone(v.Words)
	m.held[name] = api.Setting{Name: name, Value: v, From: from}
	return api.OK
}

func (m model) copied() model {
	return model{keys: m.keys, held: maps.Clone(m.held)}
}

// all are the settings, by rising names.
func (m model) all() []api.Setting {
	var all []api.Setting
	for _, name := range slices.Sorted(maps.Keys(m.held)) {
		all = append(all, m.held[name])
	}
	return all
}

func alike(a, b api.Setting) bool {
	return a.Name == b.Name && a.From == b.From && a.Value.Kind == b.Value.Kind && a.Value.Int == b.Value.Int && a.Value.Text == b.Value.Text && slices.Equal(a.Value.Words, b.Value.Words)
}

// nearNames are a name and those that are nearly it.
func nearNames(name string) []string {
	return []string{name, name + "a", name + "0", name + ".", name + ".a", "a" + name, strings.ToUpper(name), strings.ToUpper(name[:1]) + name[1:], name + "\x00", " " + name, name[:len(name)-1], name[1:], name[:len(name)-1] + "{", strings.Split(name, ".")[0]}
}

// check holds all that settings answer against the model.
func (m model) check(t *testing.T, x *layer.Settings) {
	t.Helper()
	if all := x.All(); !slices.EqualFunc(all, m.all(), alike) {
		t.Errorf("All: %+v; not %+v", all, m.all())
	}
	for _, name := range []string{"", ".", "a", "z", "net", "net.prot", "store.", "no name", "\xff", strings.Repeat("a", 33)} {
		m.checkGet(t, x, name)
	}
	for name := range m.held {
		for _, near := range nearNames(name) {
			m.checkGet(t, x, near)
		}
	}
}

func (m model) checkGet(t *testing.T, x *layer.Settings, name string) {
	t.Helper()
	want, there := m.held[name]
	if got, ok := x.Get(name); ok != there || !alike(got, want) {
		t.Errorf("Get of %.100q: %+v, %t; not %+v, %t", name, got, ok, want, there)
	}
}

// checkValues: each value may be its setting's.
func (m model) checkValues(t *testing.T, x *layer.Settings) {
	t.Helper()
	all := x.All()
	if len(all) != len(m.keys) {
		t.Errorf("there are %d settings of %d definitions", len(all), len(m.keys))
	}
	for _, one := range all {
		if k, ok := defined(m.keys, one.Name); !ok || !mayBe(k, one.Value) || !value.Right(one.Value) || one.From < 0 || one.From > 5 {
			t.Errorf("%+v, of %+v", one, k)
		}
	}
}

func listsCloned(l [][]api.Given) [][]api.Given {
	l = slices.Clone(l)
	for i := range l {
		l[i] = slices.Clone(l[i])
	}
	return l
}

// checkMerge holds Merge against the chapter's words, and tells what it answered and what settings must hold from then on.
func checkMerge(t *testing.T, s *key.Set, l [][]api.Given, from []int) (*layer.Settings, model, api.Errno) {
	t.Helper()
	l2, from2, keys := listsCloned(l), slices.Clone(from), s.All()
	x, e, i, at := layer.Merge(s, l, from)
	m, wantE, wantI, wantAt := mergedByWords(keys, l2, from2)
	if e != wantE || i != wantI || at != wantAt || (x == nil) != (wantE != api.OK) {
		t.Errorf("Merge of %.500s from %.100v: %d, %d, %d, no settings: %t; not %d, %d, %d", fmt.Sprint(l2), from2, e, i, at, x == nil, wantE, wantI, wantAt)
		return x, m, e
	}
	if !slices.Equal(from, from2) || !slices.EqualFunc(l, l2, slices.Equal[[]api.Given]) || !slices.Equal(s.All(), keys) {
		t.Errorf("Merge wrote into what it was given: %.500s, which was %.500s; %v, which was %v", fmt.Sprint(l), fmt.Sprint(l2), from, from2)
	}
	if x != nil {
		m.check(t, x)
		m.checkValues(t, x)
	}
	return x, m, e
}

// merged are settings of lists that are all taken, and their model.
func merged(t *testing.T, s *key.Set, l [][]api.Given, from []int) (*layer.Settings, model) {
	t.Helper()
	x, m, e := checkMerge(t, s, l, from)
	if e != api.OK || x == nil {
		t.Fatalf("Merge of %.500s from %v: %d", fmt.Sprint(l), from, e)
	}
	return x, m
}

// wantWrong: lists are refused by that error, at that place of that list.
func wantWrong(t *testing.T, s *key.Set, l [][]api.Given, from []int, wantE api.Errno, wantI, wantAt int) {
	t.Helper()
	checkMerge(t, s, l, from)
	if x, e, i, at := layer.Merge(s, l, from); x != nil || e != wantE || i != wantI || at != wantAt {
		t.Errorf("Merge of %.500s from %v: %d, %d, %d; not %d, %d, %d", fmt.Sprint(l), from, e, i, at, wantE, wantI, wantAt)
	}
}

// checkPut puts into settings and their model, and holds the one against the other.
func (m model) checkPut(t *testing.T, x *layer.Settings, name string, v api.Value, from int) api.Errno {
	t.Helper()
	words := slices.Clone(v.Words)
	want := m.put(name, v, from)
	got := x.Put(name, v, from)
	if got != want {
		t.Errorf("Put of %.60q, %.300s, from %d: %d, not %d", name, fmt.Sprintf("%+v", v), from, got, want)
	}
	if !slices.Equal(v.Words, words) {
		t.Errorf("Put wrote into words: %q, which were %q", v.Words, words)
	}
	m.check(t, x)
	return got
}

// wantPut: Put of that answers so.
func (m model) wantPut(t *testing.T, x *layer.Settings, name string, v api.Value, from int, want api.Errno) {
	t.Helper()
	if e := m.checkPut(t, x, name, v, from); e != want {
		t.Errorf("Put of %.60q, %.300s, from %d: %d, not %d", name, fmt.Sprintf("%+v", v), from, e, want)
	}
}

// wantHeld: settings have that value of a name, from there.
func wantHeld(t *testing.T, x *layer.Settings, name string, v api.Value, from int) {
	t.Helper()
	if got, ok := x.Get(name); !ok || !alike(got, api.Setting{Name: name, Value: v, From: from}) {
		t.Errorf("Get of %q: %+v, %t; not %+v, %d", name, got, ok, v, from)
	}
}

// given is a list of names and texts, one behind the other.
func given(l ...string) []api.Given {
	var list []api.Given
	for i := 0; i < len(l); i += 2 {
		list = append(list, api.Given{Name: l[i], Text: l[i+1], At: 7 * i})
	}
	return list
}

func lists(l ...[]api.Given) [][]api.Given { return l }

func integer(n int) api.Value { return api.Value{Kind: api.Int, Int: n} }

func text(s string) api.Value { return api.Value{Kind: api.Text, Text: s} }

func words(l ...string) api.Value { return api.Value{Kind: api.Words, Words: l} }

// setOf is a set with definitions that are all taken.
func setOf(keys ...api.Key) *key.Set {
	s := key.New()
	for _, k := range keys {
		if e := s.Add(k); e != api.OK {
			panic(fmt.Sprintf("Add of %+v: %d", k, e))
		}
	}
	return s
}

// longName is as long as a name may be.
var longName = "long." + strings.Repeat("x", 27)

// ownSet has settings of each kind, with bounds of many sorts; names of one, two and three parts; and names that are the beginnings of others.
func ownSet() *key.Set {
	return setOf(
		api.Key{Name: "debug", Kind: api.Bool, Default: "yes", Letter: "d"},
		api.Key{Name: "a", Kind: api.Int, Default: "-5", Least: -9, Most: 9},
		api.Key{Name: "a.b.c", Kind: api.Span, Default: "30s", Least: 30, Most: 30},
		api.Key{Name: "a.b", Kind: api.Size, Default: "4096", Least: 512, Most: 65536},
		api.Key{Name: "ab", Kind: api.Text, Default: "x y"},
		api.Key{Name: "a0.w", Kind: api.Words, Default: "b,a,b", Least: 2, Most: 3},
		api.Key{Name: "w.none", Kind: api.Words},
		api.Key{Name: "w.all", Kind: api.Words, Default: strings.Repeat("w,", 15) + "w", Least: 16, Most: 16},
		api.Key{Name: "size", Kind: api.Size, Default: "1g", Most: 1 << 50},
		api.Key{Name: "span", Kind: api.Span, Default: "0", Most: 1 << 40},
		api.Key{Name: "zero", Kind: api.Int, Default: "0"},
		api.Key{Name: longName, Kind: api.Int, Default: "4611686018427387904", Least: -1 << 62, Most: 1 << 62},
	)
}

func sets() []*key.Set {
	return []*key.Set{key.Standard(), ownSet()}
}

// manyTexts are texts that something may say of a setting, of one kind or another.
var manyTexts = []string{"", "0", "1", "2", "5", "6", "9", "-9", "-10", "10", "16", "17", "64", "65", "4096", "1024", "65535", "65536", "65537", "on", "off", "true", "false", "On", "1s", "30s", "3600s", "1h", "61m", "7d", "30d", "31d", "0s", "511", "512", "4k", "64k", "65k", "1g", "2g", "1048576g", "1048577g", "4x", "a", "a,b", "a,b,c", "a,b,c,d", "a,", ",", strings.Repeat("w,", 15) + "w", strings.Repeat("w,", 16) + "w", "x y", "${net.host}", "$", "\n", "\xff", "A", "A,B", "4611686018427387904", "-4611686018427387904", "4611686018427387905", strings.Repeat("x", 200), strings.Repeat("x", 201), strings.Repeat("9", 400), "/var"}
