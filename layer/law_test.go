package layer_test

import (
	"slices"
	"strconv"
	"strings"
	"testing"

	"tinderbox/api"
	"tinderbox/key"
	"tinderbox/layer"
	"tinderbox/value"
)

// L5, P2, P4

// numbers gives the same numbers in every run.
type numbers uint64

func (x *numbers) next() int {
	*x = *x*6364136223846793005 + 1442695040888963407
	return int(*x >> 33)
}

func (x *numbers) text(letters string, most int) string {
	b := make([]byte, x.next()%(most+1))
	for i := range b {
		b[i] = letters[x.next()%len(letters)]
	}
	return string(b)
}

func (x *numbers) words(least, most int) []string {
	list := make([]string, least+x.next()%(most-least+1))
	for i := range list {
		list[i] = "w" + x.text("ab-_.09", 8)
	}
	return list
}

// number is one within bounds, often one of them.
func (x *numbers) number(least, most int) int {
	switch x.next() % 4 {
	case 0:
		return least
	case 1:
		return most
	}
	return max(least, min(most, least/2+most/2+x.next()%(1<<20)-1<<19))
}

// right is a value that may be that of a definition's setting.
func (x *numbers) right(k api.Key) api.Value {
	v := api.Value{Kind: k.Kind}
	switch k.Kind {
	case api.Bool:
		v.Int = x.next() % 2
	case api.Text:
		v.Text = x.text("ab ${}./:~", 12)
	case api.Words:
		v.Words = x.words(k.Least, k.Most)
	default:
		v.Int = x.number(k.Least, k.Most)
	}
	return v
}

// value is one for a definition's setting, which of five about one may not be.
func (x *numbers) value(k api.Key) api.Value {
	v := x.right(k)
	switch x.next() % 20 {
	case 0:
		v.Kind = x.next() % 8
	case 1:
		v.Int += 1<<(x.next()%63) - 1<<(x.next()%63)
	case 2:
		v.Text += "\n"
	case 3:
		v.Words = append(v.Words, "Not")
	}
	return v
}

// says is a text for a definition's setting; one that may not be, if right is false, more often than not.
func (x *numbers) says(k api.Key, right bool) string {
	s, _ := value.Print(x.right(k))
	if !right {
		s = manyTexts[x.next()%len(manyTexts)]
	}
	return s
}

// list is one that a set takes.
func (x *numbers) list(keys []api.Key, most int) []api.Given {
	var list []api.Given
	for range x.next() % (most + 1) {
		k := keys[x.next()%len(keys)]
		list = append(list, given(k.Name, x.says(k, true))...)
	}
	return list
}

// lists are some that a set takes, of origins that rise.
func (x *numbers) lists(keys []api.Key, most int) ([][]api.Given, []int) {
	from := rising[x.next()%len(rising)]
	l := make([][]api.Given, len(from))
	for i := range l {
		l[i] = x.list(keys, most)
	}
	return l, from
}

// Random lists, of which many are refused, are answered as the chapter's words say; and then values are put.
func TestRandomListsAndPuts(t *testing.T) {
	for seed, s := range sets() {
		r, keys := numbers(seed), s.All()
		counts, puts := map[api.Errno]int{}, map[api.Errno]int{}
		for range 1500 {
			l, from := r.lists(keys, 8)
			switch r.next() % 8 {
			case 0, 1:
				k := keys[r.next()%len(keys)]
				l = append(l, given(k.Name, r.says(k, false)))
				from = append(slices.Clone(from), 4)
			case 2:
				l = append(lists(append(r.list(keys, 3), given(r.text("net.port", 8), "1")...)), l...)
				from = append([]int{1}, from...)
			}
			x, m, e := checkMerge(t, s, l, from)
			counts[e]++
			for range 8 {
				if k := keys[r.next()%len(keys)]; x != nil {
					puts[m.checkPut(t, x, k.Name, r.value(k), r.next()%7)]++
				}
			}
			if x != nil {
				m.checkValues(t, x)
			}
		}
		if counts[api.OK] < 500 || counts[api.ErrArg] < 100 || counts[api.ErrLayerName] < 30 || counts[api.ErrLayerValue] < 30 || puts[api.OK] < 3000 || puts[api.ErrLayerValue] < 300 || puts[api.ErrArg] < 300 {
			t.Errorf("how often each was answered: %v; %v", counts, puts)
		}
	}
}

// A setting hangs on what is given for its name alone: it is the same where all other names are left out, and where all that stands under the last one is left out.
func TestASettingHangsOnWhatIsGivenForItAlone(t *testing.T) {
	for seed, s := range sets() {
		r, keys := numbers(10+seed), s.All()
		for range 500 {
			l, from := r.lists(keys, 12)
			x, _ := merged(t, s, l, from)
			for _, k := range keys {
				want, _ := x.Get(k.Name)
				alone := make([][]api.Given, len(l))
				last, origin := given(), []int{}
				for i, list := range l {
					alone[i] = slices.DeleteFunc(slices.Clone(list), func(g api.Given) bool { return g.Name != k.Name })
					if n := len(alone[i]); n > 0 {
						last, origin = alone[i][n-1:], from[i:i+1]
					}
				}
				wantSame(t, s, alone, from, want)
				wantSame(t, s, slices.Repeat(lists(last), len(origin)), origin, want)
				wantSame(t, setOf(k), alone, from, want)
			}
		}
	}
}

// wantSame: lists make that setting.
func wantSame(t *testing.T, s *key.Set, l [][]api.Given, from []int, want api.Setting) {
	t.Helper()
	x, e, _, _ := layer.Merge(s, l, from)
	if e != api.OK {
		t.Fatalf("Merge of %v from %v: %d", l, from, e)
	}
	if one, ok := x.Get(want.Name); !ok || !alike(one, want) {
		t.Errorf("Merge of %v from %v: %+v, not %+v", l, from, one, want)
	}
}

// What lower lists and earlier ones say bears upon nothing: whatever is laid under a list that gives a setting, it is what that list says last.
func TestWhatStandsUnderTheLastOne(t *testing.T) {
	for seed, s := range sets() {
		r, keys := numbers(20+seed), s.All()
		for _, k := range keys {
			for range 60 {
				v := r.right(k)
				said, _ := value.Print(v)
				for origin := 2; origin <= 4; origin++ {
					top := append(r.list(keys, 5), given(k.Name, said)...)
					behind := slices.DeleteFunc(r.list(keys, 5), func(g api.Given) bool { return g.Name == k.Name })
					wantSame(t, s, lists(r.list(keys, 9), append(top, behind...)), []int{origin - 1, origin}, api.Setting{Name: k.Name, Value: v, From: origin})
				}
			}
		}
	}
}

// A list that is laid over others changes what it gives, and nothing else.
func TestAListOverOthers(t *testing.T) {
	for seed, s := range sets() {
		r, keys := numbers(30+seed), s.All()
		for range 500 {
			lower, upper := lists(r.list(keys, 9), r.list(keys, 9)), r.list(keys, 5)
			x, m := merged(t, s, lower, []int{1, 3})
			y, _ := merged(t, s, append(lower, upper), []int{1, 3, 4})
			for _, g := range upper {
				k, _ := s.Find(g.Name)
				v, _ := value.Parse(k.Kind, g.Text)
				m.put(g.Name, v, api.FromFlag)
			}
			m.check(t, y)
			for _, g := range upper {
				one, _ := y.Get(g.Name)
				x.Put(one.Name, one.Value, one.From)
			}
			m.check(t, x)
		}
	}
}

// Settings of no lists are the defaults.
func TestSettingsOfNoListsAreTheDefaults(t *testing.T) {
	for _, s := range append(sets(), key.New()) {
		x, _ := merged(t, s, nil, nil)
		for i, k := range s.All() {
			v, e := value.Parse(k.Kind, k.Default)
			if one := x.All()[i]; e != api.OK || !alike(one, api.Setting{Name: k.Name, Value: v, From: api.FromDefault}) {
				t.Errorf("%+v, of %+v", one, k)
			}
		}
	}
	x, _ := merged(t, key.Standard(), nil, nil)
	want := []string{"boot.dry false", "boot.limit 0", "boot.services log,net", "boot.workers 0", "log.file ${store.dir}/log", "log.keep 7d", "log.level 2", "net.host localhost", "net.peers ", "net.port 8080", "net.timeout 30s", "net.url http://${net.host}:${net.port}", "store.blocks 64", "store.cache 4m", "store.dir /var/tinder", "store.page 4k"}
	for i, one := range x.All() {
		if printed, e := value.Print(one.Value); e != api.OK || one.Name+" "+printed != want[i] || one.From != 0 {
			t.Errorf("%+v, not %q", one, want[i])
		}
	}
}

// In which order definitions were added does not matter, nor what they say of letters.
func TestTheOrderOfDefinitionsDoesNotMatter(t *testing.T) {
	for seed, s := range sets() {
		r := numbers(40 + seed)
		keys, bare := s.All(), key.New()
		slices.Reverse(keys)
		for _, k := range keys {
			k.Letter = ""
			bare.Add(k)
		}
		reversed := setOf(keys...)
		for range 500 {
			l, from := r.lists(keys, 8)
			_, m := merged(t, s, l, from)
			for _, other := range []*key.Set{reversed, bare} {
				x, _ := merged(t, other, l, from)
				m.check(t, x)
			}
		}
	}
}

// What other settings a set has does not matter for those that are there.
func TestOtherSettingsDoNotMatter(t *testing.T) {
	r := numbers(50)
	s := setOf(api.Key{Name: "m", Kind: api.Int, Default: "5", Least: 1, Most: 9}, api.Key{Name: "m.x", Kind: api.Words, Default: "a", Most: 2})
	l := lists(given("m", "1", "m.x", "b", "m", "9"), given("m.x", ""))
	wrong := lists(nil, given("m", "1", "m.x", "a,b,c"))
	for count := 2; count < 64; {
		x, _ := merged(t, s, l, []int{2, 3})
		wantHeld(t, x, "m", integer(9), api.FromStore)
		wantHeld(t, x, "m.x", words(), api.FromEnv)
		wantWrong(t, s, wrong, []int{1, 4}, api.ErrLayerValue, 1, 1)
		name := "m" + r.text("x0.", 6)
		if s.Add(api.Key{Name: name, Kind: api.Int, Default: strconv.Itoa(count), Most: 99}) == api.OK {
			count++
		}
	}
}

// Behind any puts each value may be its setting's, and what Merge is given of it, printed, is it.
func TestEachValueMayBeItsSettingsAlways(t *testing.T) {
	for seed, s := range sets() {
		r, keys := numbers(60+seed), s.All()
		x, m := merged(t, s, nil, nil)
		for range 2000 {
			k := keys[r.next()%len(keys)]
			m.checkPut(t, x, k.Name, r.value(k), r.next()%8-1)
			m.checkValues(t, x)
		}
		var printed []api.Given
		for _, one := range x.All() {
			said, e := value.Print(one.Value)
			if e != api.OK {
				t.Errorf("Print of %+v: %d", one, e)
			}
			printed = append(printed, given(one.Name, said)...)
		}
		y, _ := merged(t, s, lists(printed), []int{4})
		for i, one := range y.All() {
			if !value.Same(one.Value, x.All()[i].Value) || one.From != api.FromFlag {
				t.Errorf("%+v; it was %+v", one, x.All()[i])
			}
		}
	}
}

// What is put in counts, whatever was given and put ahead of it.
func TestWhatWasPutLastCounts(t *testing.T) {
	for seed, s := range sets() {
		r, keys := numbers(70+seed), s.All()
		for range 300 {
			l, from := r.lists(keys, 8)
			x, _ := merged(t, s, l, from)
			y, _ := merged(t, s, nil, nil)
			for _, k := range keys {
				one, other := r.right(k), r.right(k)
				x.Put(k.Name, other, r.next()%6)
				x.Put(k.Name, one, 5)
				y.Put(k.Name, one, 5)
			}
			if !slices.EqualFunc(x.All(), y.All(), alike) {
				t.Errorf("%+v; and %+v", x.All(), y.All())
			}
		}
	}
}

// The generator says what it must: of each kind values that may be, and others.
func TestGenerator(t *testing.T) {
	r := numbers(80)
	for _, s := range sets() {
		for _, k := range s.All() {
			wrong := 0
			for range 500 {
				if v := r.right(k); !mayBe(k, v) {
					t.Fatalf("%+v, of %+v", v, k)
				}
				if !mayBe(k, r.value(k)) {
					wrong++
				}
			}
			if wrong < 25 || wrong > 250 {
				t.Errorf("%d were wrong of %s", wrong, strings.TrimSpace(k.Name))
			}
		}
	}
}
