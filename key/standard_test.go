package key_test

import (
	"maps"
	"slices"
	"sync"
	"testing"

	"tinderbox/api"
	"tinderbox/key"
)

// What stood ahead of main.
var (
	earlyKeys    = key.Standard().All()
	earlyPort, _ = key.Standard().Letter("p")
	earlyURL, _  = key.Standard().Find("net.url")
)

// standardByTable is the chapter's table.
func standardByTable() []api.Key {
	return []api.Key{
		{Name: "boot.dry", Kind: 1, Default: "false", Least: 0, Most: 0, Letter: "n"},
		{Name: "boot.limit", Kind: 2, Default: "0", Least: 0, Most: 1024, Letter: ""},
		{Name: "boot.services", Kind: 6, Default: "log,net", Least: 0, Most: 16, Letter: "s"},
		{Name: "boot.workers", Kind: 2, Default: "0", Least: 0, Most: 64, Letter: "w"},
		{Name: "log.file", Kind: 5, Default: "${store.dir}/log", Least: 0, Most: 0, Letter: ""},
		{Name: "log.keep", Kind: 4, Default: "7d", Least: 1, Most: 2592000, Letter: ""},
		{Name: "log.level", Kind: 2, Default: "2", Least: 0, Most: 5, Letter: "v"},
		{Name: "net.host", Kind: 5, Default: "localhost", Least: 0, Most: 0, Letter: ""},
		{Name: "net.peers", Kind: 6, Default: "", Least: 0, Most: 16, Letter: ""},
		{Name: "net.port", Kind: 2, Default: "8080", Least: 1, Most: 65535, Letter: "p"},
		{Name: "net.timeout", Kind: 4, Default: "30s", Least: 1, Most: 3600, Letter: ""},
		{Name: "net.url", Kind: 5, Default: "http://${net.host}:${net.port}", Least: 0, Most: 0, Letter: ""},
		{Name: "store.blocks", Kind: 2, Default: "64", Least: 8, Most: 4096, Letter: "b"},
		{Name: "store.cache", Kind: 3, Default: "4m", Least: 0, Most: 1073741824, Letter: "c"},
		{Name: "store.dir", Kind: 5, Default: "/var/tinder", Least: 0, Most: 0, Letter: "d"},
		{Name: "store.page", Kind: 3, Default: "4k", Least: 512, Most: 65536, Letter: ""},
	}
}

func standardModel() model {
	m := model{}
	for _, k := range standardByTable() {
		m[k.Name] = k
	}
	return m
}

// K4

func TestStandardExamples(t *testing.T) {
	s := key.Standard()
	if all := s.All(); len(all) != 16 || all[0].Name != "boot.dry" || all[15].Name != "store.page" {
		t.Errorf("All: %+v", all)
	}
	if k, ok := s.Letter("p"); !ok || k.Name != "net.port" {
		t.Errorf("Letter of p: %+v, %t", k, ok)
	}
	for _, letter := range []string{"z", ""} {
		if k, ok := s.Letter(letter); ok || k != (api.Key{}) {
			t.Errorf("Letter(%q): %+v, %t", letter, k, ok)
		}
	}
	if k, ok := s.Find("net.url"); !ok || k.Default != "http://${net.host}:${net.port}" {
		t.Errorf("Find of net.url: %+v, %t", k, ok)
	}
}

func TestStandardIsTheTable(t *testing.T) {
	s := key.Standard()
	if all := s.All(); !slices.Equal(all, standardByTable()) {
		t.Errorf("All: %+v", all)
	}
	standardModel().check(t, s)
	checkLaws(t, s)
}

// Each definition of the table is taken from a set of none, and refused by the standard one.
func TestStandardTakesNoneOfItsOwn(t *testing.T) {
	s, m := filled(t, standardByTable()...)
	checkAlike(t, s, key.Standard(), m)
	for _, k := range standardByTable() {
		if e := key.Standard().Add(k); e != api.ErrKeyTwice {
			t.Errorf("Add of %s: %d", k.Name, e)
		}
		want := api.ErrKeyLetter
		if k.Letter == "" {
			want = api.OK
		}
		if e := key.Standard().Add(named(k, "own", k.Letter)); e != want {
			t.Errorf("Add of another one like %s: %d, not %d", k.Name, e, want)
		}
	}
}

// K5: the standard definitions in any order are the standard set.
func TestTheTableInAnyOrder(t *testing.T) {
	x := numbers(3)
	for range 50 {
		s, m := filled(t, x.shuffled(standardByTable())...)
		checkAlike(t, s, key.Standard(), m)
	}
}

func TestEachStandardSetIsOneOfItsOwn(t *testing.T) {
	one, two := key.Standard(), key.Standard()
	m := standardModel()
	for i, k := range many(49, false) {
		want := api.OK
		if i == 48 {
			want = api.ErrKeyMany
		}
		if e := m.add(t, one, k); e != want {
			t.Errorf("Add of %d more: %d, not %d", i+1, e, want)
		}
	}
	m.check(t, one)
	standardModel().check(t, two)
	standardModel().check(t, key.Standard())
	if e := two.Add(text("kaa", "z")); e != api.OK {
		t.Errorf("Add of what another standard set has: %d", e)
	}
	standardModel().check(t, key.Standard())
}

// P1, R3: the same at start-up, and at every time behind that, whoever else calls.

func TestStandardAtStartUp(t *testing.T) {
	if table := standardByTable(); !slices.Equal(earlyKeys, table) || earlyPort != table[9] || earlyURL != table[11] {
		t.Errorf("at start-up: %+v, %+v, %+v", earlyKeys, earlyPort, earlyURL)
	}
}

func TestStandardIsTheSameAtEveryTime(t *testing.T) {
	before := key.Standard()
	var group sync.WaitGroup
	for seed := range 8 {
		group.Go(func() {
			callAll(seed)
			if all := key.Standard().All(); !slices.Equal(all, standardByTable()) {
				t.Errorf("behind other calls: %+v", all)
			}
		})
	}
	group.Wait()
	standardModel().check(t, before)
	standardModel().check(t, key.Standard())
}

// callAll makes calls of all kinds, those that are refused too.
func callAll(seed int) {
	x := numbers(seed)
	for range 50 {
		sets := []*key.Set{key.New(), key.Standard()}
		for _, s := range sets {
			for range 30 {
				k := x.key()
				s.Add(k)
				s.Find(k.Name)
				s.Letter(k.Letter)
			}
			for _, k := range many(65, true) {
				s.Add(k)
			}
			spoil(s.All())
		}
	}
}

// What one set answers does not hang on calls on others.
func TestCallsDoNotDisturbOneAnother(t *testing.T) {
	s, m := filled(t, many(30, true)...)
	before := maps.Clone(m)
	callAll(1)
	before.check(t, s)
}
