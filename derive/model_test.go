package derive_test

import (
	"fmt"
	"maps"
	"math/big"
	"regexp"
	"slices"
	"strings"
	"testing"

	"tinderbox/api"
	"tinderbox/derive"
	"tinderbox/key"
	"tinderbox/layer"
	"tinderbox/value"
)

// The chapter's words once more: a pattern tells names; the rules that are left stand in a map, in which the least one that can be taken is looked for; what is made is reckoned with numbers of any size.

var nameForm = regexp.MustCompile(`\A[a-z][a-z0-9]*(?:\.[a-z][a-z0-9]*){0,2}\z`)

func nameByWords(s string) bool {
	return len(s) <= 32 && nameForm.MatchString(s)
}

func rightByWords(r api.Rule) bool {
	for _, name := range append([]string{r.Target}, r.Needs...) {
		if !nameByWords(name) {
			return false
		}
	}
	switch r.Op {
	case 1, 2, 3, 4, 6:
		return len(r.Needs) >= 1 && len(r.Needs) <= 8 && r.Add >= -2147483648 && r.Add <= 2147483648
	case 5:
		return len(r.Needs) == 1 && r.Add > 0 && r.Add <= 2147483648
	}
	return false
}

func orderByWords(l []api.Rule) ([]int, api.Errno) {
	if len(l) > 32 {
		return nil, api.ErrArg
	}
	left, again := map[string]int{}, false
	for at, r := range l {
		if !rightByWords(r) {
			return nil, api.ErrDeriveForm
		}
		_, is := left[r.Target]
		again = again || is
		left[r.Target] = at
	}
	if again {
		return nil, api.ErrDeriveTwice
	}
	var order []int
	for len(left) > 0 {
		var free []string
		for target, at := range left {
			if !slices.ContainsFunc(l[at].Needs, func(name string) bool { _, is := left[name]; return is }) {
				free = append(free, target)
			}
		}
		if len(free) == 0 {
			return nil, api.ErrDeriveLoop
		}
		order = append(order, left[slices.Min(free)])
		delete(left, slices.Min(free))
	}
	return order, api.OK
}

// model is what settings hold, by their names.
type model map[string]api.Setting

func modelOf(all []api.Setting) model {
	m := model{}
	for _, one := range all {
		m[one.Name] = one
	}
	return m
}

// all are the settings, by rising names.
func (m model) all() []api.Setting {
	var all []api.Setting
	for _, name := range slices.Sorted(maps.Keys(m)) {
		all = append(all, m[name])
	}
	return all
}

// has: are there settings of all that a rule names, each of a kind that it asks for?
func (m model) has(r api.Rule) bool {
	numeric := []int{api.Int, api.Size, api.Span}
	asked := numeric
	if r.Op == api.OpCount {
		asked = []int{api.Words}
	}
	ok := slices.Contains(numeric, m[r.Target].Value.Kind)
	for _, name := range r.Needs {
		ok = ok && slices.Contains(asked, m[name].Value.Kind)
	}
	return ok
}

var greatestOnTheWay = new(big.Int).Lsh(big.NewInt(1), 62)

// makes is what a rule makes; nil, if that is nothing.
func (m model) makes(r api.Rule) *big.Int {
	add := big.NewInt(int64(r.Add))
	var needs []*big.Int
	for _, name := range r.Needs {
		n := m[name].Value.Int
		if r.Op == api.OpCount {
			n = len(m[name].Value.Words)
		}
		needs = append(needs, big.NewInt(int64(n)))
	}
	all := append(needs, add)
	switch r.Op {
	case api.OpMost:
		return slices.MaxFunc(all, (*big.Int).Cmp)
	case api.OpLeast:
		return slices.MinFunc(all, (*big.Int).Cmp)
	case api.OpShare:
		return new(big.Int).Quo(needs[0], add)
	}
	with, n := (*big.Int).Add, big.NewInt(0)
	if r.Op == api.OpTimes {
		with, n = (*big.Int).Mul, big.NewInt(1)
	}
	for _, next := range all {
		n = with(new(big.Int), n, next)
		if n.CmpAbs(greatestOnTheWay) > 0 {
			return nil
		}
	}
	return n
}

// runByWords is what Run must answer, and what settings must be behind it.
func runByWords(keys []api.Key, all []api.Setting, l []api.Rule) (api.Errno, string, []api.Setting) {
	order, e := orderByWords(l)
	if e != api.OK {
		return e, "", all
	}
	m := modelOf(all)
	for _, at := range order {
		if !m.has(l[at]) {
			return api.ErrDeriveName, l[at].Target, all
		}
	}
	for _, at := range order {
		one := m[l[at].Target]
		if one.From >= 1 && one.From <= 4 {
			continue
		}
		n := m.makes(l[at])
		k := keys[slices.IndexFunc(keys, func(k api.Key) bool { return k.Name == one.Name })]
		if n == nil || n.Cmp(big.NewInt(int64(k.Least))) < 0 || n.Cmp(big.NewInt(int64(k.Most))) > 0 {
			return api.ErrDeriveRange, one.Name, all
		}
		one.Value.Int, one.From = int(n.Int64()), 5
		m[one.Name] = one
	}
	return api.OK, "", m.all()
}

func alike(a, b api.Setting) bool {
	return a.Name == b.Name && a.From == b.From && value.Same(a.Value, b.Value)
}

func allAlike(a, b []api.Setting) bool {
	return slices.EqualFunc(a, b, alike)
}

func sameRule(a, b api.Rule) bool {
	return a.Target == b.Target && a.Op == b.Op && a.Add == b.Add && slices.Equal(a.Needs, b.Needs)
}

func sameRules(a, b []api.Rule) bool {
	return slices.EqualFunc(a, b, sameRule)
}

func rulesCloned(l []api.Rule) []api.Rule {
	l = slices.Clone(l)
	for i := range l {
		l[i].Needs = slices.Clone(l[i].Needs)
	}
	return l
}

// checkRight holds Right against the chapter's words, and tells what it answered.
func checkRight(t *testing.T, r api.Rule) bool {
	t.Helper()
	was := rulesCloned([]api.Rule{r})[0]
	got := derive.Right(r)
	if want := rightByWords(was); got != want {
		t.Errorf("Right of %.400s: %t", fmt.Sprintf("%+v", r), got)
	}
	if !sameRule(r, was) {
		t.Errorf("Right wrote into %+v, which was %+v", r, was)
	}
	return got
}

// checkOrder holds Order against the chapter's words, and tells what it answered.
func checkOrder(t *testing.T, l []api.Rule) ([]int, api.Errno) {
	t.Helper()
	was := rulesCloned(l)
	order, e := derive.Order(l)
	if want, wantE := orderByWords(was); !slices.Equal(order, want) || e != wantE {
		t.Errorf("Order of %.600s: %v, %d; not %v, %d", fmt.Sprintf("%+v", was), order, e, want, wantE)
	}
	if !sameRules(l, was) {
		t.Errorf("Order wrote into %.600s, which was %.600s", fmt.Sprintf("%+v", l), fmt.Sprintf("%+v", was))
	}
	return order, e
}

// checkRun holds Run on settings of a set against the chapter's words, and tells what it answered.
func checkRun(t *testing.T, s *key.Set, x *layer.Settings, l []api.Rule) (api.Errno, string) {
	t.Helper()
	before, copied, was := x.All(), x.Copy(), rulesCloned(l)
	wantE, wantName, want := runByWords(s.All(), x.All(), was)
	e, name := derive.Run(x, l)
	if e != wantE || name != wantName {
		t.Errorf("Run of %.600s on %.1500s: %d, %q; not %d, %q", fmt.Sprintf("%+v", was), fmt.Sprint(before), e, name, wantE, wantName)
	}
	if all := x.All(); !allAlike(all, want) {
		t.Errorf("behind Run of %.600s on %.1500s: %.1500s; not %.1500s", fmt.Sprintf("%+v", was), fmt.Sprint(before), fmt.Sprint(all), fmt.Sprint(want))
	}
	if !allAlike(copied.All(), before) {
		t.Errorf("Run changed a copy: %.1500s; not %.1500s", fmt.Sprint(copied.All()), fmt.Sprint(before))
	}
	if !sameRules(l, was) {
		t.Errorf("Run wrote into %.600s, which was %.600s", fmt.Sprintf("%+v", l), fmt.Sprintf("%+v", was))
	}
	return e, name
}

// wantMade: Run comes through, and a setting has that number, from that origin.
func wantMade(t *testing.T, s *key.Set, x *layer.Settings, l []api.Rule, want map[string]int) {
	t.Helper()
	if e, name := checkRun(t, s, x, l); e != api.OK || name != "" {
		t.Errorf("Run of %.600s: %d, %q", fmt.Sprintf("%+v", l), e, name)
	}
	for name, n := range want {
		wantHeld(t, x, name, n, api.FromRule)
	}
}

func wantHeld(t *testing.T, x *layer.Settings, name string, n, from int) {
	t.Helper()
	if one, there := x.Get(name); !there || one.Value.Int != n || one.From != from {
		t.Errorf("%s: %+v, %t; not %d, from %d", name, one, there, n, from)
	}
}

// wantRefused: Run tells this error, and this setting; and nothing is changed.
func wantRefused(t *testing.T, s *key.Set, x *layer.Settings, l []api.Rule, want api.Errno, wantName string) {
	t.Helper()
	before := x.All()
	if e, name := checkRun(t, s, x, l); e != want || name != wantName {
		t.Errorf("Run of %.600s: %d, %q; not %d, %q", fmt.Sprintf("%+v", l), e, name, want, wantName)
	}
	if all := x.All(); !allAlike(all, before) {
		t.Errorf("refused, it changed %.1500s to %.1500s", fmt.Sprint(before), fmt.Sprint(all))
	}
}

// rule is one of an operation; its needs are written with blanks between.
func rule(target string, op int, needs string, add int) api.Rule {
	return api.Rule{Target: target, Needs: strings.Fields(needs), Op: op, Add: add}
}

func rules(l ...api.Rule) []api.Rule { return l }

// given are settings of a set, with some from an origin: names and texts, one behind the other.
func given(t *testing.T, s *key.Set, from int, l ...string) *layer.Settings {
	t.Helper()
	var list []api.Given
	for i := 0; i < len(l); i += 2 {
		list = append(list, api.Given{Name: l[i], Text: l[i+1]})
	}
	x, e, _, at := layer.Merge(s, [][]api.Given{list}, []int{from})
	if e != api.OK {
		t.Fatalf("Merge of %q: %d, %d", l, e, at)
	}
	return x
}

// put puts a value into settings that must take it.
func put(t *testing.T, x *layer.Settings, name string, v api.Value, from int) {
	t.Helper()
	if e := x.Put(name, v, from); e != api.OK {
		t.Fatalf("Put of %q, %+v: %d", name, v, e)
	}
}

// putNumber puts a number into a setting of its kind.
func putNumber(t *testing.T, x *layer.Settings, name string, n, from int) {
	t.Helper()
	one, _ := x.Get(name)
	put(t, x, name, api.Value{Kind: one.Value.Kind, Int: n}, from)
}

// putWords puts so many words into a setting.
func putWords(t *testing.T, x *layer.Settings, name string, count, from int) {
	t.Helper()
	put(t, x, name, api.Value{Kind: api.Words, Words: slices.Repeat([]string{"w"}, count)}, from)
}

// longName is as long as a name may be.
var longName = "long." + strings.Repeat("x", 27)

const most62 = 1 << 62

// ownSet has settings of each kind, some as wide as their kind is, some narrow; names of one, two and three parts; and names that are the beginnings of others.
func ownSet() *key.Set {
	s := key.New()
	for _, k := range []api.Key{
		{Name: "a", Kind: api.Int, Default: "1", Least: -most62, Most: most62},
		{Name: "a.b", Kind: api.Int, Default: "2", Least: -most62, Most: most62},
		{Name: "a.b.c", Kind: api.Int, Default: "-3", Least: -most62, Most: most62},
		{Name: "ab", Kind: api.Int, Default: "4", Least: -most62, Most: most62},
		{Name: longName, Kind: api.Int, Default: "0", Least: -9, Most: 9},
		{Name: "below", Kind: api.Int, Default: "-5", Least: -7, Most: -5},
		{Name: "one", Kind: api.Int, Default: "5", Least: 5, Most: 5},
		{Name: "no", Kind: api.Bool, Default: "on"},
		{Name: "size", Kind: api.Size, Default: "1k", Most: 1 << 50},
		{Name: "size.few", Kind: api.Size, Default: "512", Least: 512, Most: 65536},
		{Name: "span", Kind: api.Span, Default: "1m", Most: 1 << 40},
		{Name: "span.few", Kind: api.Span, Default: "30s", Least: 30, Most: 60},
		{Name: "text", Kind: api.Text, Default: "5"},
		{Name: "w", Kind: api.Words, Default: "x,y,z", Most: 16},
		{Name: "w.none", Kind: api.Words, Most: 16},
	} {
		if e := s.Add(k); e != api.OK {
			panic(fmt.Sprintf("Add of %+v: %d", k, e))
		}
	}
	return s
}

// own are ownSet's settings.
func own(t *testing.T) *layer.Settings {
	t.Helper()
	return given(t, ownSet(), api.FromFile)
}

// numbered are names that rise as their numbers do.
func numbered(n int) string {
	return "n" + string([]byte{'a' + byte(n/26), 'a' + byte(n%26)})
}

// numbers gives the same numbers in every run.
type numbers uint64

func (x *numbers) next() int {
	*x = *x*6364136223846793005 + 1442695040888963407
	return int(*x >> 33)
}

// pick is one of some.
func pick[E any](x *numbers, l []E) E {
	return l[x.next()%len(l)]
}

// row is some order of so many places.
func (x *numbers) row(count int) []int {
	row := make([]int, count)
	for i := range row {
		at := x.next() % (i + 1)
		row[i], row[at] = row[at], i
	}
	return row
}

// shuffled are rules in some other order.
func (x *numbers) shuffled(l []api.Rule) []api.Rule {
	var other []api.Rule
	for _, at := range x.row(len(l)) {
		other = append(other, l[at])
	}
	return other
}
