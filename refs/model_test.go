package refs_test

import (
	"fmt"
	"maps"
	"math/big"
	"regexp"
	"slices"
	"strings"
	"testing"

	"tinderbox/api"
	"tinderbox/key"
	"tinderbox/layer"
	"tinderbox/refs"
	"tinderbox/value"
)

// The chapter's words once more: a pattern tells which texts are well formed; what settings lead to grows until it stays; how long an expansion would be is reckoned with numbers of any size.

var (
	textForm = regexp.MustCompile(`\A(?s:[^$]|\$\$|\$\{[a-z][a-z0-9]*(?:\.[a-z][a-z0-9]*){0,2}\})*\z`)
	piece    = regexp.MustCompile(`\$\$|\$\{([^}]*)\}`)
)

func namesByWords(s string) ([]string, api.Errno) {
	if !textForm.MatchString(s) {
		return nil, api.ErrRefsForm
	}
	var names []string
	for _, found := range piece.FindAllStringSubmatch(s, -1) {
		switch name := found[1]; {
		case len(name) > 32:
			return nil, api.ErrRefsForm
		case found[0] != "$$" && !slices.Contains(names, name):
			names = append(names, name)
		}
	}
	return names, api.OK
}

// model is what settings say, and what they speak of, by their names.
type model struct {
	says    map[string]string
	speaks  map[string][]string
	lengths map[string]*big.Int
	becomes map[string]string
}

func modelOf(all []api.Setting) model {
	m := model{map[string]string{}, map[string][]string{}, map[string]*big.Int{}, map[string]string{}}
	for _, one := range all {
		m.says[one.Name], _ = value.Print(one.Value)
		if one.Value.Kind == api.Text {
			m.speaks[one.Name], _ = namesByWords(one.Value.Text)
		}
	}
	return m
}

// leadsTo are, of each setting, all that it leads to.
func (m model) leadsTo() map[string][]string {
	leads := map[string][]string{}
	for name := range m.says {
		leads[name] = slices.Clone(m.speaks[name])
		for at := 0; at < len(leads[name]); at++ {
			for _, further := range m.speaks[leads[name][at]] {
				if !slices.Contains(leads[name], further) {
					leads[name] = append(leads[name], further)
				}
			}
		}
	}
	return leads
}

// length is how long an expansion would be.
func (m model) length(name string) *big.Int {
	if m.lengths[name] == nil {
		s := m.says[name]
		n := big.NewInt(int64(len(s)))
		for _, found := range piece.FindAllStringSubmatch(s, -1) {
			n.Sub(n, big.NewInt(int64(len(found[0]))))
			if found[0] == "$$" {
				n.Add(n, big.NewInt(1))
			} else {
				n.Add(n, m.length(found[1]))
			}
		}
		m.lengths[name] = n
	}
	return m.lengths[name]
}

// expansion is none that is too long.
func (m model) expansion(name string) string {
	if _, there := m.becomes[name]; !there {
		m.becomes[name] = piece.ReplaceAllStringFunc(m.says[name], func(found string) string {
			if found == "$$" {
				return "$"
			}
			return m.expansion(found[2 : len(found)-1])
		})
	}
	return m.becomes[name]
}

// wrong: what is wrong with a setting, of the errors that hang on it.
func (m model) wrong(one api.Setting, leads map[string][]string, e api.Errno) bool {
	switch e {
	case api.ErrRefsForm:
		_, e := namesByWords(one.Value.Text)
		return e != api.OK
	case api.ErrRefsName:
		return slices.ContainsFunc(m.speaks[one.Name], func(name string) bool { _, there := m.says[name]; return !there })
	case api.ErrRefsLoop:
		return slices.Contains(leads[one.Name], one.Name)
	}
	return m.length(one.Name).Cmp(big.NewInt(200)) > 0
}

// expandedByWords is what Expand must answer, and what settings must be behind it.
func expandedByWords(all []api.Setting) (api.Errno, string, []api.Setting) {
	m := modelOf(all)
	leads := m.leadsTo()
	for _, e := range []api.Errno{api.ErrRefsForm, api.ErrRefsName, api.ErrRefsLoop, api.ErrRefsLong} {
		var names []string
		for _, one := range all {
			if one.Value.Kind == api.Text && m.wrong(one, leads, e) {
				names = append(names, one.Name)
			}
		}
		if len(names) > 0 {
			return e, slices.Min(names), all
		}
	}
	all = slices.Clone(all)
	for i, one := range all {
		if one.Value.Kind == api.Text {
			all[i].Value.Text = m.expansion(one.Name)
		}
	}
	return api.OK, "", all
}

func alike(a, b api.Setting) bool {
	return a.Name == b.Name && a.From == b.From && value.Same(a.Value, b.Value)
}

func allAlike(a, b []api.Setting) bool {
	return slices.EqualFunc(a, b, alike)
}

// checkNames holds Names against the chapter's words, and tells what it answered.
func checkNames(t *testing.T, s string) ([]string, api.Errno) {
	t.Helper()
	names, e := refs.Names(s)
	if want, wantE := namesByWords(s); !slices.Equal(names, want) || e != wantE {
		t.Errorf("Names of %.300q: %.300q, %d; not %.300q, %d", s, names, e, want, wantE)
	}
	return names, e
}

// wantNames: a text speaks of these names, written with blanks between.
func wantNames(t *testing.T, s, want string) {
	t.Helper()
	if names, e := checkNames(t, s); !slices.Equal(names, strings.Fields(want)) || e != api.OK {
		t.Errorf("Names of %.300q: %.300q, %d; not %.300q", s, names, e, want)
	}
}

func wantFormless(t *testing.T, s string) {
	t.Helper()
	if names, e := checkNames(t, s); len(names) != 0 || e != api.ErrRefsForm {
		t.Errorf("Names of %.300q: %.300q, %d", s, names, e)
	}
}

// checkExpand holds Expand against the chapter's words, and tells what it answered.
func checkExpand(t *testing.T, x *layer.Settings) (api.Errno, string) {
	t.Helper()
	before, copied := x.All(), x.Copy()
	wantE, wantName, want := expandedByWords(x.All())
	e, name := refs.Expand(x)
	if e != wantE || name != wantName {
		t.Errorf("Expand of %.1000s: %d, %q; not %d, %q", fmt.Sprint(before), e, name, wantE, wantName)
	}
	if all := x.All(); !allAlike(all, want) {
		t.Errorf("behind Expand of %.1000s: %.1000s; not %.1000s", fmt.Sprint(before), fmt.Sprint(all), fmt.Sprint(want))
	}
	if !allAlike(copied.All(), before) {
		t.Errorf("Expand changed a copy: %.1000s; not %.1000s", fmt.Sprint(copied.All()), fmt.Sprint(before))
	}
	return e, name
}

// texts are texts by the names of their settings.
type texts map[string]string

// standardWith are the standard settings, with some texts from the environment.
func standardWith(t *testing.T, given texts) *layer.Settings {
	t.Helper()
	return merged(t, key.Standard(), given)
}

// settingsOf are settings of the kind Text, of a set that has no others.
func settingsOf(t *testing.T, given texts) *layer.Settings {
	t.Helper()
	s := key.New()
	for _, name := range slices.Sorted(maps.Keys(given)) {
		if e := s.Add(api.Key{Name: name, Kind: api.Text}); e != api.OK {
			t.Fatalf("Add of %q: %d", name, e)
		}
	}
	return merged(t, s, given)
}

func merged(t *testing.T, s *key.Set, given texts) *layer.Settings {
	t.Helper()
	var list []api.Given
	for name, text := range given {
		list = append(list, api.Given{Name: name, Text: text})
	}
	x, e, _, _ := layer.Merge(s, [][]api.Given{list}, []int{api.FromEnv})
	if e != api.OK {
		t.Fatalf("Merge of %.500q: %d", given, e)
	}
	return x
}

// wantTexts: Expand comes through, and settings have these texts behind it.
func wantTexts(t *testing.T, x *layer.Settings, want texts) {
	t.Helper()
	if e, name := checkExpand(t, x); e != api.OK || name != "" {
		t.Errorf("Expand: %d, %q", e, name)
	}
	for name, text := range want {
		if one, there := x.Get(name); !there || one.Value.Text != text {
			t.Errorf("%s is %q; not %q", name, one.Value.Text, text)
		}
	}
}

// wantWrong: Expand tells this error, and this setting.
func wantWrong(t *testing.T, x *layer.Settings, want api.Errno, wantName string) {
	t.Helper()
	if e, name := checkExpand(t, x); e != want || name != wantName {
		t.Errorf("Expand of %.1000s: %d, %q; not %d, %q", fmt.Sprint(x.All()), e, name, want, wantName)
	}
}

// put puts a value into settings that must take it.
func put(t *testing.T, x *layer.Settings, name string, v api.Value, from int) {
	t.Helper()
	if e := x.Put(name, v, from); e != api.OK {
		t.Fatalf("Put of %q, %+v: %d", name, v, e)
	}
}

func text(s string) api.Value { return api.Value{Kind: api.Text, Text: s} }

func words(l ...string) api.Value { return api.Value{Kind: api.Words, Words: l} }

// longName is as long as a name may be.
var longName = "long." + strings.Repeat("x", 27)

// ownSet has settings of each kind, and of Text several; names of one, two and three parts; and names that are the beginnings of others.
func ownSet() *key.Set {
	s := key.New()
	for _, k := range []api.Key{
		{Name: "a", Kind: api.Text, Default: "x"},
		{Name: "a.b", Kind: api.Text, Default: "<${a}>"},
		{Name: "a.b.c", Kind: api.Text, Default: "${a.b}${no}"},
		{Name: "ab", Kind: api.Text},
		{Name: longName, Kind: api.Text, Default: "$$"},
		{Name: "no", Kind: api.Bool, Default: "off"},
		{Name: "num", Kind: api.Int, Default: "-7", Least: -1 << 62, Most: 1 << 62},
		{Name: "size", Kind: api.Size, Default: "2048k", Most: 1 << 50},
		{Name: "span", Kind: api.Span, Default: "0", Most: 1 << 40},
		{Name: "w.none", Kind: api.Words, Most: 16},
		{Name: "w.two", Kind: api.Words, Default: "b,a", Most: 16},
		{Name: "z", Kind: api.Text, Default: "${" + longName + "}"},
	} {
		if e := s.Add(k); e != api.OK {
			panic(fmt.Sprintf("Add of %+v: %d", k, e))
		}
	}
	return s
}

// numbered are names that rise as their numbers do.
func numbered(n int) string {
	return "n" + string([]byte{'a' + byte(n/26), 'a' + byte(n%26)})
}

// reference is a text that speaks of a name.
func reference(name string) string { return "${" + name + "}" }

// numbers gives the same numbers in every run.
type numbers uint64

func (x *numbers) next() int {
	*x = *x*6364136223846793005 + 1442695040888963407
	return int(*x >> 33)
}

// pick is one of some texts.
func (x *numbers) pick(l []string) string {
	return l[x.next()%len(l)]
}
