package key_test

import (
	"slices"
	"strings"
	"testing"
	"unsafe"

	"tinderbox/api"
	"tinderbox/key"
)

// K1

func TestANewSetHasNone(t *testing.T) {
	s := key.New()
	if all := s.All(); len(all) != 0 {
		t.Errorf("All of a new set: %+v", all)
	}
	model{}.check(t, s)
	for _, k := range standardByTable() {
		if got, ok := s.Find(k.Name); ok || got != (api.Key{}) {
			t.Errorf("a new set has %+v", got)
		}
		if got, ok := s.Letter(k.Letter); ok || got != (api.Key{}) {
			t.Errorf("a new set has %+v", got)
		}
	}
}

func TestSetsKnowNothingOfOneAnother(t *testing.T) {
	s, m := filled(t, text("a", "x"), text("b", "y"))
	other, empty := key.New(), key.New()
	if e := other.Add(text("a", "x")); e != api.OK {
		t.Errorf("Add of what another set has: %d", e)
	}
	if e := other.Add(text("c", "y")); e != api.OK {
		t.Errorf("Add of a letter that another set has: %d", e)
	}
	m.check(t, s)
	model{}.check(t, empty)
	model{"a": text("a", "x"), "c": text("c", "y")}.check(t, other)
}

// A set that was assigned from another one is one of its own.
func TestAssignedSets(t *testing.T) {
	for count := range 20 {
		s, m := filled(t, many(count, true)...)
		assigned := *s
		s.Add(text("z", ""))
		assigned.Add(text("a", ""))
		m["z"] = text("z", "")
		m.check(t, s)
		delete(m, "z")
		m["a"] = text("a", "")
		m.check(t, &assigned)
	}
}

// K3: Find, Letter

func TestFindAndLetterTellWhatWasAdded(t *testing.T) {
	keys := []api.Key{
		{Name: "a.b", Kind: api.Int, Default: "5", Least: 1, Most: 9, Letter: "x"},
		{Name: "a", Kind: api.Bool, Default: "off", Letter: "a"},
		{Name: "a.b.c", Kind: api.Size, Default: "4096", Least: 4096, Most: 4097},
		{Name: "ab", Kind: api.Span, Default: "60s", Most: 60, Letter: "z"},
		{Name: "b", Kind: api.Text, Default: "${x} yes", Letter: "g"},
		{Name: "a0", Kind: api.Words, Default: "b,a,b", Least: 3, Most: 3, Letter: "i"},
	}
	s, m := filled(t, keys...)
	for range 2 {
		m.check(t, s)
	}
	for _, k := range keys {
		if got, ok := s.Find(k.Name); !ok || got != k {
			t.Errorf("Find(%q): %+v, %t; not as it was added: %+v", k.Name, got, ok, k)
		}
		if got, ok := s.Letter(k.Letter); ok != (k.Letter != "") || ok && got != k {
			t.Errorf("Letter(%q): %+v, %t; not as it was added: %+v", k.Letter, got, ok, k)
		}
	}
}

// Definitions without a letter are not found by the empty one, however many there are.
func TestTheEmptyLetter(t *testing.T) {
	for count := range 65 {
		s, _ := filled(t, many(count, false)...)
		if k, ok := s.Letter(""); ok || k != (api.Key{}) {
			t.Errorf("Letter of the empty letter, of %d: %+v", count, k)
		}
	}
}

// K3: All

func TestAllIsByRisingNames(t *testing.T) {
	names := []string{"a", "a.a", "a.a.z", "a.a0", "a.b", "a.z", "a0", "a0.a", "a9", "aa", "aa.a", "az", "b", "b.a", "z.a.a", "z9"}
	for _, step := range []int{1, 3, 5, 11, 15} {
		s := key.New()
		for i := range names {
			if e := s.Add(text(names[(i+1)*step%len(names)], "")); e != api.OK {
				t.Fatalf("Add: %d", e)
			}
		}
		var got []string
		for _, k := range s.All() {
			got = append(got, k.Name)
		}
		if !slices.Equal(got, names) {
			t.Errorf("All: %q", got)
		}
	}
}

// R2

// spoil writes into a list, and into its spare room.
func spoil(keys []api.Key) {
	keys = keys[:cap(keys)]
	for i := range keys {
		keys[i] = api.Key{Name: "spoilt", Kind: 9, Default: "spoilt", Least: 9, Letter: "q"}
	}
}

func TestListsThatComeOutAreNewMemory(t *testing.T) {
	for count := range 65 {
		s, m := filled(t, many(count, true)...)
		one, two := s.All(), s.All()
		spoil(one)
		if !slices.Equal(two, m.all()) {
			t.Errorf("another list was written into: %+v", two)
		}
		m.check(t, s)
		if count < 64 {
			m.add(t, s, text("a", ""))
			spoil(two)
			m.check(t, s)
		}
	}
}

// A list that came out stays as it was, whatever is added behind it.
func TestListsThatComeOutAreNotWrittenInto(t *testing.T) {
	s, m := key.New(), model{}
	var lists, wants [][]api.Key
	for _, k := range many(64, true) {
		lists, wants = append(lists, s.All()), append(wants, m.all())
		m.add(t, s, k)
	}
	for i, list := range lists {
		if !slices.Equal(list, wants[i]) {
			t.Errorf("the list of %d: %+v", i, list)
		}
	}
}

// inside: does a text stand in the memory of another one?
func inside(s, all string) bool {
	if s == "" || all == "" {
		return false
	}
	at, begin := uintptr(unsafe.Pointer(unsafe.StringData(s))), uintptr(unsafe.Pointer(unsafe.StringData(all)))
	return at >= begin && at < begin+uintptr(len(all))
}

func TestTextsThatAreHandedInAreNotKept(t *testing.T) {
	file := strings.Repeat("-", 1000) + "net.port=8080;p" + strings.Repeat("-", 1000)
	handed := api.Key{Name: file[1000:1008], Kind: api.Text, Default: file[1009:1013], Letter: file[1014:1015]}
	s, _ := filled(t, handed)
	k, _ := s.Letter("p")
	if k != (api.Key{Name: "net.port", Kind: api.Text, Default: "8080", Letter: "p"}) {
		t.Fatalf("Letter: %+v", k)
	}
	if inside(k.Name, file) || inside(k.Default, file) || inside(k.Letter, file) {
		t.Errorf("%+v has pieces of what was handed in", k)
	}
	if k, _ := s.Find(handed.Name); inside(k.Name, file) {
		t.Errorf("Find tells a piece of what was handed in")
	}
}
