package env_test

import (
	"fmt"
	"regexp"
	"slices"
	"strings"
	"testing"

	"tinderbox/api"
	"tinderbox/env"
	"tinderbox/key"
)

// The chapter's words once more: patterns tell what is a name and a pair, and each definition in a list is asked whether a pair speaks of it.

var (
	nameForm = regexp.MustCompile(`\A[a-z][a-z0-9]*(?:\.[a-z][a-z0-9]*){0,2}\z`)
	pairForm = regexp.MustCompile(`\A([^=]+)=((?s:.)*)\z`)
)

// calledByWords is what a name is called: its letters as great ones, its digits as they are, a `_` for each point.
func calledByWords(name string) string {
	const from, to = "abcdefghijklmnopqrstuvwxyz0123456789.", "ABCDEFGHIJKLMNOPQRSTUVWXYZ0123456789_"
	s := ""
	for _, r := range name {
		s += to[strings.IndexRune(from, r):][:1]
	}
	return s
}

func namedByWords(name string) (string, api.Errno) {
	if len(name) > 32 || !nameForm.MatchString(name) {
		return "", api.ErrArg
	}
	return calledByWords(name), api.OK
}

func firstPart(name string) string {
	return strings.Split(name, ".")[0]
}

type definitions []api.Key

// spokenOf is the setting that is called so, or none; and whether what it is called begins with what some first part is called, and a `_`.
func (d definitions) spokenOf(called string) (name string, begins bool) {
	for _, k := range d {
		if calledByWords(k.Name) == called {
			name = k.Name
		}
		if strings.HasPrefix(called, calledByWords(firstPart(k.Name))+"_") {
			begins = true
		}
	}
	return name, begins
}

func (d definitions) parsed(pairs []string) ([]api.Given, api.Errno, int) {
	var told []api.Given
	for at, pair := range pairs {
		found := pairForm.FindStringSubmatchIndex(pair)
		if found == nil {
			return nil, api.ErrEnvForm, at
		}
		name, begins := d.spokenOf(pair[:found[3]])
		if name == "" && begins {
			return nil, api.ErrEnvName, at
		}
		if name != "" {
			told = append(told, given(name, pair[found[3]+1:], at))
		}
	}
	return told, api.OK, 0
}

// checkName holds Name against the chapter's words, and tells what it answered.
func checkName(t *testing.T, name string) (string, api.Errno) {
	t.Helper()
	called, e := env.Name(name)
	if want, wantE := namedByWords(name); called != want || e != wantE {
		t.Errorf("Name of %.300q: %q, %d; not %q, %d", name, called, e, want, wantE)
	}
	return called, e
}

// checkParse holds Parse against the chapter's words, and tells what it answered.
func checkParse(t *testing.T, s *key.Set, pairs []string) ([]api.Given, api.Errno, int) {
	t.Helper()
	before, keys := slices.Clone(pairs), s.All()
	told, e, at := env.Parse(s, pairs)
	want, wantE, wantAt := definitions(keys).parsed(before)
	if !slices.Equal(told, want) || e != wantE || at != wantAt {
		t.Errorf("Parse of %.300q: %+v, %d, %d; not %+v, %d, %d", before, told, e, at, want, wantE, wantAt)
	}
	if !slices.Equal(pairs, before) || !slices.Equal(s.All(), keys) {
		t.Errorf("Parse wrote into what it was given: %.300q, which was %.300q; %+v", pairs, before, s.All())
	}
	return told, e, at
}

// wantGiven: pairs give just these settings.
func wantGiven(t *testing.T, s *key.Set, pairs []string, want ...api.Given) {
	t.Helper()
	if told, e, at := checkParse(t, s, pairs); !slices.Equal(told, want) || e != api.OK || at != 0 {
		t.Errorf("Parse of %.300q: %+v, %d, %d; not %+v", pairs, told, e, at, want)
	}
}

// wantWrong: pairs are refused by that error, at that place.
func wantWrong(t *testing.T, s *key.Set, pairs []string, want api.Errno, wantAt int) {
	t.Helper()
	if told, e, at := checkParse(t, s, pairs); len(told) != 0 || e != want || at != wantAt {
		t.Errorf("Parse of %.300q: %+v, %d, %d; not %d, %d", pairs, told, e, at, want, wantAt)
	}
}

// words are pairs that are written with blanks between.
func words(s string) []string {
	return strings.Fields(s)
}

func given(name, text string, at int) api.Given {
	return api.Given{Name: name, Text: text, At: at}
}

// setOf is a set with definitions that are all taken.
func setOf(keys ...api.Key) *key.Set {
	s := key.New()
	for _, k := range keys {
		if e := s.Add(k); e != api.OK {
			panic(fmt.Sprintf("Add of %+v: %d", k, e))
		}
	}
	return s
}

// textsOf is a set with settings of texts.
func textsOf(names ...string) *key.Set {
	s := key.New()
	for _, name := range names {
		if e := s.Add(api.Key{Name: name, Kind: api.Text}); e != api.OK {
			panic(fmt.Sprintf("Add of %q: %d", name, e))
		}
	}
	return s
}

// ownSet has a setting of each kind; names of one, two and three parts; and first parts that are the beginnings of other ones.
func ownSet() *key.Set {
	return setOf(
		api.Key{Name: "debug", Kind: api.Bool, Default: "no", Letter: "d"}, api.Key{Name: "d", Kind: api.Words}, api.Key{Name: "d.e", Kind: api.Size, Default: "0"}, api.Key{Name: "d.e.b", Kind: api.Span, Default: "0"}, api.Key{Name: "d1.e2.b3", Kind: api.Int, Default: "0"},
		api.Key{Name: "net.x", Kind: api.Text}, api.Key{Name: "nets.x.y", Kind: api.Text}, api.Key{Name: "ne.t.x", Kind: api.Text}, api.Key{Name: longName, Kind: api.Text},
	)
}

// longName is as long as a name may be.
var longName = "long." + strings.Repeat("x", 27)

func sets() []*key.Set {
	return []*key.Set{key.Standard(), ownSet(), shortSet()}
}

// shortSet has names that are made of few bytes.
func shortSet() *key.Set {
	return textsOf("a", "aa.b", "b.a", "b.a.a", "b1")
}

// manyTexts are texts that a pair may give.
var manyTexts = []string{"", "x", "9001", "=", "a=b", "==", "=x", "x=", "NET_PORT=1", "true", " ", " x ", "\n", "a\nb", "\x00", "\xff", "\u00e4", "\"x\"", "${net.host}", "_", strings.Repeat("x", 201), strings.Repeat("=", 1000)}

func oneByte(b int) string {
	return string([]byte{byte(b)})
}

// eachText calls use with each text of so many bytes at most.
func eachText(letters string, most int, use func(s string)) {
	var grow func(s []byte)
	grow = func(s []byte) {
		use(string(s))
		if len(s) == most {
			return
		}
		for i := range len(letters) {
			grow(append(s, letters[i]))
		}
	}
	grow(nil)
}
