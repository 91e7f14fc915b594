package key_test

import (
	"math"
	"strings"
	"testing"

	"tinderbox/api"
	"tinderbox/key"
)

// K2: the chapter's examples

func TestAddExamples(t *testing.T) {
	s, m := key.New(), model{}
	for _, c := range []struct {
		k    api.Key
		want api.Errno
	}{
		{api.Key{Name: "a.b", Kind: api.Int, Default: "5", Least: 1, Most: 9, Letter: "x"}, api.OK},
		{api.Key{Name: "a.b", Kind: api.Int, Default: "5", Least: 1, Most: 9, Letter: "x"}, api.ErrKeyTwice},
		{api.Key{Name: "c", Kind: api.Bool, Default: "yes", Letter: "x"}, api.ErrKeyLetter},
		{api.Key{Name: "c", Kind: api.Int, Default: "5", Least: 6, Most: 9}, api.ErrKeyDefault},
		{api.Key{Name: "c", Kind: api.Int, Default: "5", Least: 9, Most: 6}, api.ErrKeyForm},
		{api.Key{Name: "c", Kind: api.Int, Default: "5", Least: 1, Most: 9, Letter: "h"}, api.ErrKeyForm},
		{api.Key{Name: "c", Kind: api.Int, Default: "5", Least: 1, Most: 9, Letter: "X"}, api.ErrKeyForm},
		{api.Key{Name: "c", Kind: api.Int, Default: "5", Least: 1, Most: 9, Letter: "xy"}, api.ErrKeyForm},
		{api.Key{Name: "a..b", Kind: api.Int, Default: "5", Least: 1, Most: 9}, api.ErrKeyForm},
		{api.Key{Name: "c", Kind: 7, Default: "5", Least: 1, Most: 9}, api.ErrKeyForm},
		{api.Key{Name: "c", Kind: api.Bool, Default: "yes", Most: 1}, api.ErrKeyForm},
	} {
		if e := m.add(t, s, c.k); e != c.want {
			t.Errorf("Add of %+v: %d, not %d", c.k, e, c.want)
		}
	}
	m.check(t, s)
}

// K2: names

func TestAddOfNames(t *testing.T) {
	for _, name := range []string{"a", "z9", "net.port", "a1.b.c2", strings.Repeat("a", 32), "a.b." + strings.Repeat("c", 28)} {
		checkAdd(t, text(name, ""), api.OK)
	}
	for _, name := range []string{"", "a.", ".a", "a..b", ".", "1a", "a.1", "A", "aB", "a_b", "a-b", "a.b.c.d", " a", "a ", "a\n", "a\x00", "\u00e4", "a\xff", strings.Repeat("a", 33), "a.b." + strings.Repeat("c", 29), strings.Repeat("a", 1<<20)} {
		checkAdd(t, text(name, ""), api.ErrKeyForm)
	}
}

// K2: letters

func TestAddOfEachLetterAndOfNone(t *testing.T) {
	count := 0
	for _, letter := range manyLetters() {
		want := api.ErrKeyForm
		if letterForm.MatchString(letter) {
			want = api.OK
			count++
		}
		checkAdd(t, text("a", letter), want)
	}
	if count != 26 {
		t.Errorf("%d letters were taken, not the empty one and 25", count)
	}
	for _, letter := range []string{"h", "H", "X", "xy", "aa", "1", "-", " ", "x ", "\x00", "\xe1", "\u00fc", strings.Repeat("x", 257)} {
		checkAdd(t, text("a", letter), api.ErrKeyForm)
	}
}

// K2: kinds

// readable has a default for each kind, and bounds within which it lies.
var readable = []api.Key{
	{Name: "a", Kind: api.Bool, Default: "on"},
	{Name: "a", Kind: api.Int, Default: "-7", Least: -9, Most: 9},
	{Name: "a", Kind: api.Size, Default: "4k", Least: 1, Most: 1 << 20},
	{Name: "a", Kind: api.Span, Default: "2m", Least: 60, Most: 3600},
	{Name: "a", Kind: api.Text, Default: "x y"},
	{Name: "a", Kind: api.Words, Default: "x,y", Least: 1, Most: 3},
}

func TestAddOfEachKindAndOfNone(t *testing.T) {
	for _, k := range readable {
		checkAdd(t, k, api.OK)
		for _, kind := range noKinds {
			k.Kind = kind
			checkAdd(t, k, api.ErrKeyForm)
			k.Least, k.Most = 0, 0
			checkAdd(t, k, api.ErrKeyForm)
		}
	}
}

// K2: bounds

func TestAddOfBoolAndTextWithBounds(t *testing.T) {
	for _, k := range []api.Key{{Name: "a", Kind: api.Bool, Default: "false"}, {Name: "a", Kind: api.Bool, Default: "true"}, {Name: "a", Kind: api.Text}, {Name: "a", Kind: api.Text, Default: "x"}} {
		checkAdd(t, k, api.OK)
		for _, bounds := range [][2]int{{0, 1}, {1, 1}, {1, 0}, {-1, 0}, {-1, -1}, {0, -1}, {-1, 1}, {0, 200}, {math.MinInt, 0}, {0, math.MaxInt}, {math.MinInt, math.MaxInt}} {
			k.Least, k.Most = bounds[0], bounds[1]
			checkAdd(t, k, api.ErrKeyForm)
		}
	}
}

func TestAddWithLeastAboveMost(t *testing.T) {
	for _, k := range readable {
		for _, bounds := range [][2]int{{1, 0}, {9, 6}, {16, 15}, {16, 0}, {boundsOf[k.Kind][1], boundsOf[k.Kind][1] - 1}} {
			k.Least, k.Most = bounds[0], bounds[1]
			checkAdd(t, k, api.ErrKeyForm)
		}
	}
	checkAdd(t, api.Key{Name: "a", Kind: api.Int, Default: "0", Least: api.MaxInt, Most: -api.MaxInt}, api.ErrKeyForm)
}

// atBounds are defaults that are just the least and the greatest of what a kind has.
var atBounds = map[int][2]string{
	api.Int:   {"-4611686018427387904", "4611686018427387904"},
	api.Size:  {"0", "1048576g"},
	api.Span:  {"0s", "1099511627776s"},
	api.Words: {"", strings.TrimSuffix(strings.Repeat("a,", 16), ",")},
}

func TestAddWithTheBoundsOfTheKindAndBeyond(t *testing.T) {
	for kind, defaults := range atBounds {
		least, most := boundsOf[kind][0], boundsOf[kind][1]
		for i, def := range defaults {
			k := api.Key{Name: "a", Kind: kind, Default: def}
			add := func(least, most int, want api.Errno) {
				t.Helper()
				k.Least, k.Most = least, most
				checkAdd(t, k, want)
			}
			add(least, most, api.OK)
			add(boundsOf[kind][i], boundsOf[kind][i], api.OK)
			add(boundsOf[kind][1-i], boundsOf[kind][1-i], api.ErrKeyDefault)
			add(least-1, most, api.ErrKeyForm)
			add(least, most+1, api.ErrKeyForm)
			add(least-1, most+1, api.ErrKeyForm)
			add(least-1, least-1, api.ErrKeyForm)
			add(most+1, most+1, api.ErrKeyForm)
			add(math.MinInt, most, api.ErrKeyForm)
			add(least, math.MaxInt, api.ErrKeyForm)
			add(math.MinInt, math.MaxInt, api.ErrKeyForm)
			add(math.MaxInt, math.MinInt, api.ErrKeyForm)
		}
	}
}

// K2: defaults

func TestAddOfDefaultsThatAreNotRead(t *testing.T) {
	for kind, defaults := range map[int][]string{
		api.Bool:  {"", "On", "1", "0", "yes ", "maybe"},
		api.Int:   {"", "5x", "07", "+7", "-0", "1k", "4611686018427387905", strings.Repeat("9", 400)},
		api.Size:  {"", "4K", "k", "-1", "4 k", "1048577g", "5s"},
		api.Span:  {"", "5", "-1s", "5S", "1k", "1099511627777s"},
		api.Text:  {"\n", "a\x7f", "\u00e4", "\xff", strings.Repeat("x", 201), strings.Repeat("x", 1<<20)},
		api.Words: {",", "a,", "a, b", "A", strings.Repeat("a", 33), strings.Repeat("a,", 16) + "a", strings.Repeat("abcdefghi,", 20) + "a"},
	} {
		for _, def := range defaults {
			checkAdd(t, api.Key{Name: "a", Kind: kind, Default: def, Least: boundsOf[kind][0], Most: boundsOf[kind][1]}, api.ErrKeyDefault)
		}
	}
	checkAdd(t, api.Key{Name: "a", Kind: api.Text, Default: strings.Repeat("x", 200)}, api.OK)
}

func TestAddOfDefaultsAtTheBoundsAndOutside(t *testing.T) {
	for _, c := range []struct {
		kind int
		def  string
		n    int
	}{
		{api.Int, "5", 5}, {api.Int, "0", 0}, {api.Int, "-5", -5}, {api.Size, "4k", 4096}, {api.Size, "4096", 4096}, {api.Size, "5", 5}, {api.Span, "2m", 120}, {api.Span, "120s", 120}, {api.Span, "1d", 86400}, {api.Words, "a,b", 2}, {api.Words, "abc", 1}, {api.Words, "a,a,a,a,a", 5},
	} {
		add := func(least, most int, want api.Errno) {
			t.Helper()
			checkAdd(t, api.Key{Name: "a", Kind: c.kind, Default: c.def, Least: least, Most: most}, want)
		}
		low, high := boundsOf[c.kind][0], boundsOf[c.kind][1]
		add(c.n, c.n, api.OK)
		add(low, c.n, api.OK)
		add(c.n, high, api.OK)
		add(c.n+1, high, api.ErrKeyDefault)
		add(high, high, api.ErrKeyDefault)
		if c.n > low {
			add(low, c.n-1, api.ErrKeyDefault)
			add(low, low, api.ErrKeyDefault)
		}
	}
	checkAdd(t, api.Key{Name: "a", Kind: api.Words, Least: 1, Most: 16}, api.ErrKeyDefault)
	checkAdd(t, api.Key{Name: "a", Kind: api.Words}, api.OK)
	checkAdd(t, api.Key{Name: "a", Kind: api.Words, Default: "a"}, api.ErrKeyDefault)
	checkAdd(t, api.Key{Name: "a", Kind: api.Span, Default: "0", Most: 5}, api.OK)
}

// K2: a name or a letter that is there

func TestAddOfWhatIsThere(t *testing.T) {
	s, m := filled(t, text("a", "x"), text("b", ""), text("a.b", "y"), named(readable[1], "n", "z"))
	for _, c := range []struct {
		k    api.Key
		want api.Errno
	}{
		{text("a", ""), api.ErrKeyTwice}, {text("a", "x"), api.ErrKeyTwice}, {text("b", "x"), api.ErrKeyTwice}, {text("b", ""), api.ErrKeyTwice}, {text("n", "w"), api.ErrKeyTwice},
		{text("c", "x"), api.ErrKeyLetter}, {text("c", "y"), api.ErrKeyLetter}, {named(readable[5], "c", "z"), api.ErrKeyLetter},
		{text("c", ""), api.OK}, {text("c", ""), api.ErrKeyTwice}, {text("d", "w"), api.OK}, {text("e", "w"), api.ErrKeyLetter}, {text("a.c", ""), api.OK},
	} {
		if e := m.add(t, s, c.k); e != c.want {
			t.Errorf("Add of %+v: %d, not %d", c.k, e, c.want)
		}
	}
	m.check(t, s)
}

// K2: how many there may be

func TestThe64thAndThe65th(t *testing.T) {
	for _, letters := range []bool{false, true} {
		keys := many(65, letters)
		s, m := filled(t, keys[:64]...)
		if e := m.add(t, s, keys[64]); e != api.ErrKeyMany {
			t.Errorf("the 65th: %d", e)
		}
		if e := m.add(t, s, keys[7]); e != api.ErrKeyTwice {
			t.Errorf("one that is there, behind 64: %d", e)
		}
		m.check(t, s)
	}
}

// What was refused is not in the set, and does not count.
func TestWhatWasRefusedIsNotThere(t *testing.T) {
	keys := many(64, false)
	s, m := filled(t, keys[:63]...)
	for range 100 {
		m.add(t, s, api.Key{Name: "new", Kind: 7})
		m.add(t, s, api.Key{Name: "new", Kind: api.Bool, Letter: "q"})
		m.add(t, s, text("New", "q"))
		m.add(t, s, text(keys[0].Name, "q"))
	}
	if k, ok := s.Find("new"); ok || k != (api.Key{}) {
		t.Errorf("Find of what was refused: %+v", k)
	}
	if k, ok := s.Letter("q"); ok || k != (api.Key{}) {
		t.Errorf("Letter of what was refused: %+v", k)
	}
	if e := m.add(t, s, text("new", "q")); e != api.OK {
		t.Errorf("the 64th: %d", e)
	}
	m.check(t, s)
}

// K2: the order of errors

// wrongs are five ways in which a definition may be wrong, in the order of their errors; the last one is the set's.
var wrongs = []struct {
	spoil func(k *api.Key)
	e     api.Errno
}{
	{func(k *api.Key) { k.Least, k.Most = 9, 6 }, api.ErrKeyForm},
	{func(k *api.Key) { k.Default = "five" }, api.ErrKeyDefault},
	{func(k *api.Key) { k.Name = "kaa" }, api.ErrKeyTwice},
	{func(k *api.Key) { k.Letter = "a" }, api.ErrKeyLetter},
	{func(k *api.Key) {}, api.ErrKeyMany},
}

func TestTheErrorThatIsNamedFirst(t *testing.T) {
	for set := range 1 << len(wrongs) {
		count := 63
		if set>>4&1 == 1 {
			count = 64
		}
		s, m := filled(t, many(count, true)...)
		k, want := api.Key{Name: "new", Kind: api.Int, Default: "5", Least: 1, Most: 9}, api.OK
		for i, wrong := range wrongs {
			if set>>i&1 == 0 {
				continue
			}
			wrong.spoil(&k)
			if want == api.OK {
				want = wrong.e
			}
		}
		if e := m.add(t, s, k); e != want {
			t.Errorf("Add of %+v to %d: %d, not %d", k, count, e, want)
		}
	}
}

// Each way to have no form is named ahead of a default that may not be, and of all else.
func TestNoFormIsNamedFirst(t *testing.T) {
	s, m := filled(t, many(64, true)...)
	for _, k := range []api.Key{
		{Name: "kaa.", Kind: api.Int, Default: "five", Letter: "a"},
		{Name: "kaa", Kind: 7, Default: "five", Letter: "a"},
		{Name: "kaa", Kind: 0, Default: "five", Letter: "a"},
		{Name: "kaa", Kind: api.Int, Default: "five", Letter: "h"},
		{Name: "kaa", Kind: api.Int, Default: "five", Letter: "A"},
		{Name: "kaa", Kind: api.Int, Default: "five", Letter: "aa"},
		{Name: "kaa", Kind: api.Int, Default: "five", Least: 1, Letter: "a"},
		{Name: "kaa", Kind: api.Bool, Default: "five", Most: 1, Letter: "a"},
		{Name: "kaa", Kind: api.Text, Default: "\n", Most: 1, Letter: "a"},
		{Name: "kaa", Kind: api.Words, Default: ",", Most: 17, Letter: "a"},
		{Name: "kaa", Kind: api.Size, Default: "five", Least: -1, Letter: "a"},
	} {
		if e := m.add(t, s, k); e != api.ErrKeyForm {
			t.Errorf("Add of %+v: %d", k, e)
		}
	}
	m.check(t, s)
}
