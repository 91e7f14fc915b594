package key_test

import (
	"cmp"
	"maps"
	"regexp"
	"slices"
	"strings"
	"testing"

	"tinderbox/api"
	"tinderbox/key"
	"tinderbox/value"
)

// The chapter's words once more, by patterns and a table; a set is a map.

var (
	nameForm   = regexp.MustCompile(`\A[a-z][a-z0-9]*(\.[a-z][a-z0-9]*){0,2}\z`)
	letterForm = regexp.MustCompile(`\A[a-gi-z]?\z`)
)

var boundsOf = map[int][2]int{
	api.Bool: {0, 0}, api.Int: {-4611686018427387904, 4611686018427387904}, api.Size: {0, 1125899906842624}, api.Span: {0, 1099511627776}, api.Text: {0, 0}, api.Words: {0, 16},
}

var noKinds = []int{0, 7, -1, 8, 9, 255, 256, 257, 258, 262, 1 << 32, 1<<32 + 1, -6, -1 << 63, 1<<63 - 1}

// model is what a set has, by its names.
type model map[string]api.Key

func (m model) refuses(k api.Key) api.Errno {
	bounds, isKind := boundsOf[k.Kind]
	isName := len(k.Name) <= 32 && nameForm.MatchString(k.Name)
	if !isName || !isKind || !letterForm.MatchString(k.Letter) || k.Least > k.Most || k.Least < bounds[0] || k.Most > bounds[1] {
		return api.ErrKeyForm
	}
	v, e := value.Parse(k.Kind, k.Default)
	if e != api.OK || !value.Within(v, k.Least, k.Most) {
		return api.ErrKeyDefault
	}
	if _, ok := m[k.Name]; ok {
		return api.ErrKeyTwice
	}
	if _, ok := m.letter(k.Letter); ok {
		return api.ErrKeyLetter
	}
	if len(m) == 64 {
		return api.ErrKeyMany
	}
	return api.OK
}

func (m model) letter(letter string) (api.Key, bool) {
	for _, k := range m {
		if letter != "" && k.Letter == letter {
			return k, true
		}
	}
	return api.Key{}, false
}

func (m model) all() []api.Key {
	return slices.SortedFunc(maps.Values(m), func(a, b api.Key) int { return cmp.Compare(a.Name, b.Name) })
}

// add adds to a set and to its model, and holds the one against the other.
func (m model) add(t *testing.T, s *key.Set, k api.Key) api.Errno {
	t.Helper()
	want := m.refuses(k)
	got := s.Add(k)
	if got != want {
		t.Errorf("Add of %+v to %d: %d, not %d", k, len(m), got, want)
	}
	if want == api.OK {
		m[strings.Clone(k.Name)] = k
	}
	if all := s.All(); !slices.Equal(all, m.all()) {
		t.Errorf("behind Add of %+v: %+v", k, all)
	}
	return got
}

// nearNames are a name and those that are nearly it.
func nearNames(name string) []string {
	return []string{name, name + "a", name + "0", name + ".", name + ".a", "a" + name, strings.ToUpper(name), name + "\x00", " " + name, name[:len(name)-1], name[1:], name[:len(name)-1] + "{"}
}

// manyLetters are all texts of one byte, and some that are no letters.
func manyLetters() []string {
	letters := []string{"", "pp", "p ", "ab", "\u00fc", "p\x00"}
	for b := range 256 {
		letters = append(letters, string([]byte{byte(b)}))
	}
	return letters
}

// check holds all answers of a set against its model.
func (m model) check(t *testing.T, s *key.Set) {
	t.Helper()
	if all := s.All(); !slices.Equal(all, m.all()) {
		t.Errorf("All: %+v; not %+v", all, m.all())
	}
	names := []string{"", ".", "a", "z", "net", "store.", "net.prot", "no name", "\xff", strings.Repeat("a", 33)}
	for name := range m {
		names = append(names, nearNames(name)...)
	}
	for _, name := range names {
		want, there := m[name]
		if k, ok := s.Find(name); ok != there || k != want {
			t.Errorf("Find(%q): %+v, %t; not %+v, %t", name, k, ok, want, there)
		}
	}
	for _, letter := range manyLetters() {
		want, there := m.letter(letter)
		if k, ok := s.Letter(letter); ok != there || k != want {
			t.Errorf("Letter(%q): %+v, %t; not %+v, %t", letter, k, ok, want, there)
		}
	}
}

// filled is a set, and its model, with definitions that are all taken.
func filled(t *testing.T, keys ...api.Key) (*key.Set, model) {
	t.Helper()
	s, m := key.New(), model{}
	for _, k := range keys {
		if e := m.add(t, s, k); e != api.OK {
			t.Fatalf("Add of %+v: %d", k, e)
		}
	}
	return s, m
}

// checkAdd holds Add to a new set against what it must answer.
func checkAdd(t *testing.T, k api.Key, want api.Errno) {
	t.Helper()
	s, m := key.New(), model{}
	if e := m.add(t, s, k); e != want {
		t.Errorf("Add of %+v: %d, not %d", k, e, want)
	}
	m.check(t, s)
}

// text is a definition of a Text, with a letter or without.
func text(name, letter string) api.Key {
	return api.Key{Name: name, Kind: api.Text, Letter: letter}
}

// many are so many definitions, no two of one name, the first one kaa; the first 25 have letters from a on, if letters is true.
func many(count int, letters bool) []api.Key {
	keys := make([]api.Key, count)
	for i := range keys {
		// Steps of 37 leave the names in no order.
		at := i * 37 % 101
		keys[i] = text("k"+string([]byte{byte('a' + at/26), byte('a' + at%26)}), "")
		if letters && i < 25 {
			keys[i].Letter = "abcdefgijklmnopqrstuvwxyz"[i : i+1]
		}
	}
	return keys
}

// named is a definition with another name and letter.
func named(k api.Key, name, letter string) api.Key {
	k.Name, k.Letter = name, letter
	return k
}
