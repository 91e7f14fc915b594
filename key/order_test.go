package key_test

import (
	"slices"
	"strings"
	"testing"

	"tinderbox/api"
	"tinderbox/key"
	"tinderbox/value"
)

// K5, P2: in which order definitions were added does not matter.

// numbers gives the same numbers in every run.
type numbers uint64

func (x *numbers) next() int {
	*x = *x*6364136223846793005 + 1442695040888963407
	return int(*x >> 33)
}

func (x *numbers) text(letters string, most int) string {
	b := make([]byte, x.next()%(most+1))
	for i := range b {
		b[i] = letters[x.next()%len(letters)]
	}
	return string(b)
}

// key is a definition; not all may be.
func (x *numbers) key() api.Key {
	name, letter := x.text("ab1.", 4), x.text("abcghxyzA", 1)
	if x.next()%3 > 0 {
		return named(readable[x.next()%len(readable)], name, letter)
	}
	k := api.Key{Name: name, Kind: x.next() % 8, Letter: letter}
	k.Default = []string{"yes", "off", "1", "5", "7k", "2m", "9s", "a,b", "", "\n"}[x.next()%10]
	bounds := [][2]int{{0, 0}, {0, 9}, {1, 2}, {-9, 9}, {0, 1 << 40}, boundsOf[k.Kind], {5, 4}}[x.next()%7]
	k.Least, k.Most = bounds[0], bounds[1]
	return k
}

// shuffled are the same definitions in another order.
func (x *numbers) shuffled(keys []api.Key) []api.Key {
	keys = slices.Clone(keys)
	for i := range keys {
		at := i + x.next()%(len(keys)-i)
		keys[i], keys[at] = keys[at], keys[i]
	}
	return keys
}

// eachOrder calls use with the keys in each order.
func eachOrder(keys []api.Key, use func(keys []api.Key)) {
	var swap func(from int)
	swap = func(from int) {
		if from == len(keys) {
			use(keys)
			return
		}
		for i := from; i < len(keys); i++ {
			keys[from], keys[i] = keys[i], keys[from]
			swap(from + 1)
			keys[from], keys[i] = keys[i], keys[from]
		}
	}
	swap(0)
}

// checkLaws: each default of a set is read, and lies within its bounds; no two have one name, nor one letter.
func checkLaws(t *testing.T, s *key.Set) {
	t.Helper()
	names, letters := map[string]int{}, map[string]int{}
	for _, k := range s.All() {
		v, e := value.Parse(k.Kind, k.Default)
		if e != api.OK || !value.Within(v, k.Least, k.Most) {
			t.Errorf("the default of %+v: %v, %d", k, v, e)
		}
		names[k.Name]++
		if k.Letter != "" {
			letters[k.Letter]++
		}
		if names[k.Name] > 1 || letters[k.Letter] > 1 {
			t.Errorf("two of the name or the letter of %+v", k)
		}
	}
}

// tries are definitions of which a set takes some, and refuses others.
func tries() []api.Key {
	keys := append(many(5, true), standardByTable()...)
	keys = append(keys, text("a", "h"), text("a..b", ""), text("a", "a"), text("a", "b"), text("a", "k"), text("k", ""))
	return append(keys, readable...)
}

// checkAlike: two sets of the same definitions answer the same, also to what is tried behind that.
func checkAlike(t *testing.T, a, b *key.Set, m model) {
	t.Helper()
	m.check(t, a)
	m.check(t, b)
	for _, k := range tries() {
		if x, y := a.Add(k), b.Add(k); x != y {
			t.Errorf("Add of %+v to sets that have the same: %d and %d", k, x, y)
		}
	}
	if !slices.Equal(a.All(), b.All()) {
		t.Errorf("sets that had the same: %+v and %+v", a.All(), b.All())
	}
}

func TestEachOrderOfFive(t *testing.T) {
	keys := []api.Key{text("a", "x"), text("a.b", ""), named(readable[1], "a0", "y"), named(readable[5], "aa", ""), text("b", "z")}
	first, m := filled(t, keys...)
	want := first.All()
	count := 0
	eachOrder(keys, func(keys []api.Key) {
		count++
		s, _ := filled(t, keys...)
		if !slices.Equal(s.All(), want) {
			t.Errorf("%+v: %+v", keys, s.All())
		}
		if count%10 == 0 {
			again, _ := filled(t, want...)
			checkAlike(t, s, again, m)
		}
	})
	if count != 120 {
		t.Errorf("%d orders", count)
	}
}

func TestManyInAnotherOrder(t *testing.T) {
	x := numbers(1)
	for _, count := range []int{0, 1, 2, 16, 63, 64} {
		keys := many(count, true)
		for range 5 {
			a, m := filled(t, keys...)
			b, _ := filled(t, x.shuffled(keys)...)
			checkAlike(t, a, b, m)
			checkLaws(t, a)
		}
	}
}

// Of any definitions, refused ones among them, what a set answers hangs on those that it took.
func TestWhatASetTookIsAllThatCounts(t *testing.T) {
	x := numbers(2)
	counts := map[api.Errno]int{}
	for range 300 {
		s, m := key.New(), model{}
		for range 60 {
			counts[m.add(t, s, x.key())]++
		}
		checkLaws(t, s)
		other, _ := filled(t, x.shuffled(s.All())...)
		checkAlike(t, s, other, m)
	}
	for _, e := range []api.Errno{api.OK, api.ErrKeyForm, api.ErrKeyTwice, api.ErrKeyLetter, api.ErrKeyDefault} {
		if counts[e] < 100 {
			t.Errorf("only %d were answered by %d", counts[e], e)
		}
	}
}

// P7: a default is told as it was added, whatever other text says the same.
func TestDefaultsAreToldExactly(t *testing.T) {
	for kind, defaults := range map[int][]string{
		api.Bool: {"true", "yes", "on", "false", "no", "off"}, api.Size: {"4096", "4k", "0", "0g", "1024k", "1m"}, api.Span: {"0", "0s", "0d", "60s", "1m"}, api.Text: {"", " ", "${a}", strings.Repeat("~", 200)}, api.Words: {"", "a", "a,a", "1-_."},
	} {
		for _, def := range defaults {
			k := api.Key{Name: "a", Kind: kind, Default: def, Least: boundsOf[kind][0], Most: boundsOf[kind][1]}
			s, _ := filled(t, k)
			if got, _ := s.Find("a"); got != k {
				t.Errorf("Find: %+v, not %+v", got, k)
			}
		}
	}
}
