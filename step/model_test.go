package step_test

import (
	"maps"
	"math/big"
	"regexp"
	"slices"
	"strings"
	"testing"

	"tinderbox/api"
	"tinderbox/step"
)

// The chapter's words once more: patterns tell words, numbers and blanks; pairs stand in a map by their tables and keys; numbers are of any size.

var (
	wordForm   = regexp.MustCompile(`\A[a-z0-9_.-]{1,32}\z`)
	numberForm = regexp.MustCompile(`\A(?:0|[1-9][0-9]*)\z`)
	blanksForm = regexp.MustCompile(`\A[ \t]+|[ \t]+\z`)
)

// theFunctions are the chapter's.
var theFunctions = []string{"double", "lower", "reverse", "trim", "upper"}

func isWord(s string) bool { return wordForm.MatchString(s) }

// rightByWords is the chapter's table, the Kinds as they are numbered: what a step has, Key, To and Text.
func rightByWords(s api.Step) bool {
	key, to := isWord(s.Key), isWord(s.To)
	noKey, noTo, noText := s.Key == "", s.To == "", s.Text == ""
	fields := map[int]bool{
		1: key && noTo && len(s.Text) <= 200,
		2: (key || noKey) && noTo && noText,
		3: key && to && noText,
		4: noKey && to && noText,
		5: noKey && noTo && slices.Contains(theFunctions, s.Text),
		6: key && to && noText,
	}
	return isWord(s.Table) && fields[s.Kind]
}

// otherLetters has small letters for great ones, or the other way round.
func otherLetters(great, small string) *strings.Replacer {
	var both []string
	for i := range great {
		both = append(both, great[i:i+1], small[i:i+1])
	}
	return strings.NewReplacer(both...)
}

var (
	toLower = otherLetters("ABCDEFGHIJKLMNOPQRSTUVWXYZ", "abcdefghijklmnopqrstuvwxyz")
	toUpper = otherLetters("abcdefghijklmnopqrstuvwxyz", "ABCDEFGHIJKLMNOPQRSTUVWXYZ")
)

func twice(value string) (string, api.Errno) {
	n, _ := new(big.Int).SetString(value, 10)
	if !numberForm.MatchString(value) || n.Cmp(big.NewInt(2147483648)) > 0 {
		return "", api.ErrStepValue
	}
	return n.Add(n, n).String(), api.OK
}

func backwards(value string) string {
	var out strings.Builder
	for len(value) > 0 {
		out.WriteByte(value[len(value)-1])
		value = value[:len(value)-1]
	}
	return out.String()
}

func callByWords(name, value string) (string, api.Errno) {
	if !slices.Contains(theFunctions, name) {
		return "", api.ErrStepForm
	}
	if len(value) > 200 {
		return "", api.ErrStepValue
	}
	switch name {
	case "double":
		return twice(value)
	case "lower":
		return toLower.Replace(value), api.OK
	case "reverse":
		return backwards(value), api.OK
	case "trim":
		return blanksForm.ReplaceAllString(value, ""), api.OK
	}
	return toUpper.Replace(value), api.OK
}

// place is a table and a key. (Bytes 0 are in no word, and ahead of all that are: so a table that goes on from another one stands behind it.)
type place [2]string

func (p place) text() string { return p[0] + "\x00" + p[1] }

func placeOf(p api.Pair) place { return place{p.Table, p.Key} }

// pairsByWords: are they pairs?
func pairsByWords(l []api.Pair) bool {
	var places []string
	for _, p := range l {
		if !isWord(p.Table) || !isWord(p.Key) || len(p.Value) > 200 {
			return false
		}
		places = append(places, placeOf(p).text())
	}
	return len(l) <= 500 && slices.IsSorted(places) && len(slices.Compact(places)) == len(l)
}

// rising are the pairs of a map.
func rising(m map[place]string) []api.Pair {
	var l []api.Pair
	for at, value := range m {
		l = append(l, api.Pair{Table: at[0], Key: at[1], Value: value})
	}
	slices.SortFunc(l, func(a, b api.Pair) int { return strings.Compare(placeOf(a).text(), placeOf(b).text()) })
	return l
}

func applyByWords(l []api.Pair, s api.Step) ([]api.Pair, api.Errno) {
	if !pairsByWords(l) {
		return nil, api.ErrArg
	}
	if !rightByWords(s) {
		return nil, api.ErrStepForm
	}
	m := map[place]string{}
	for _, p := range l {
		m[placeOf(p)] = p.Value
	}
	if e := stepByWords(m, s); e != api.OK {
		return nil, e
	}
	if len(m) > 500 {
		return nil, api.ErrStepMany
	}
	return rising(m), api.OK
}

func stepByWords(m map[place]string, s api.Step) api.Errno {
	here, to := place{s.Table, s.Key}, place{s.Table, s.To}
	value, there := m[here]
	_, taken := m[to]
	switch s.Kind {
	case 1:
		if there {
			return api.ErrStepTaken
		}
		m[here] = s.Text
	case 2:
		maps.DeleteFunc(m, func(at place, _ string) bool { return at == here || at[0] == s.Table && s.Key == "" })
	case 3, 6:
		if there && taken {
			return api.ErrStepTaken
		}
		if there && s.Kind == 3 {
			delete(m, here)
		}
		if there {
			m[to] = value
		}
	case 4:
		return tableByWords(m, s)
	case 5:
		return mapByWords(m, s)
	}
	return api.OK
}

// keysOf are the keys of a table.
func keysOf(m map[place]string, table string) []string {
	var keys []string
	for at := range m {
		if at[0] == table {
			keys = append(keys, at[1])
		}
	}
	return keys
}

func tableByWords(m map[place]string, s api.Step) api.Errno {
	keys := keysOf(m, s.Table)
	if len(keys) > 0 && len(keysOf(m, s.To)) > 0 {
		return api.ErrStepTaken
	}
	for _, key := range keys {
		m[place{s.To, key}] = m[place{s.Table, key}]
		delete(m, place{s.Table, key})
	}
	return api.OK
}

func mapByWords(m map[place]string, s api.Step) api.Errno {
	for _, key := range keysOf(m, s.Table) {
		made, e := callByWords(s.Text, m[place{s.Table, key}])
		if e != api.OK {
			return e
		}
		m[place{s.Table, key}] = made
	}
	return api.OK
}

// What is answered, held against the words

func checkRight(t *testing.T, s api.Step) bool {
	t.Helper()
	got := step.Right(s)
	if want := rightByWords(s); got != want {
		t.Errorf("Right of %+v: %t, not %t", s, got, want)
	}
	return got
}

func checkCall(t *testing.T, name, value string) (string, api.Errno) {
	t.Helper()
	got, e := step.Call(name, value)
	if want, wantErrno := callByWords(name, value); got != want || e != wantErrno {
		t.Errorf("%s of %q: %q, %d; not %q, %d", name, value, got, e, want, wantErrno)
	}
	return got, e
}

func checkApply(t *testing.T, l []api.Pair, s api.Step) ([]api.Pair, api.Errno) {
	t.Helper()
	was := slices.Clone(l)
	got, e := step.Apply(l, s)
	want, wantErrno := applyByWords(l, s)
	if !slices.Equal(got, want) || e != wantErrno {
		t.Errorf("%+v of %s: %s, %d; not %s, %d", s, written(was), written(got), e, written(want), wantErrno)
	}
	if !slices.Equal(l, was) {
		t.Errorf("%+v of %s wrote into it: %s", s, written(was), written(l))
	}
	return got, e
}

// wantPairs is what a step makes of pairs: these, by the chapter's words and by those of the test.
func wantPairs(t *testing.T, l []api.Pair, s api.Step, want ...string) {
	t.Helper()
	if got, e := checkApply(t, l, s); !slices.Equal(got, pairs(want...)) || e != api.OK {
		t.Errorf("%+v of %s: %s, %d; not %s", s, written(l), written(got), e, want)
	}
}

// wantSame: a step changes nothing of pairs.
func wantSame(t *testing.T, l []api.Pair, steps ...api.Step) {
	t.Helper()
	for _, s := range steps {
		if got, e := checkApply(t, l, s); !slices.Equal(got, l) || e != api.OK {
			t.Errorf("%+v of %s: %s, %d", s, written(l), written(got), e)
		}
	}
}

// wantRefused: steps are refused, each with this error, and nothing beside it.
func wantRefused(t *testing.T, want api.Errno, l []api.Pair, steps ...api.Step) {
	t.Helper()
	for _, s := range steps {
		if got, e := checkApply(t, l, s); len(got) != 0 || e != want {
			t.Errorf("%+v of %s: %s, %d; not %d", s, written(l), written(got), e, want)
		}
	}
}

// Short ways to write

// pairs are written table/key=value.
func pairs(all ...string) []api.Pair {
	var l []api.Pair
	for _, s := range all {
		at, value, _ := strings.Cut(s, "=")
		table, key, _ := strings.Cut(at, "/")
		l = append(l, api.Pair{Table: table, Key: key, Value: value})
	}
	return l
}

func written(l []api.Pair) string {
	var all []string
	for _, p := range l {
		all = append(all, p.Table+"/"+p.Key+"="+p.Value)
	}
	return strings.Join(all, " ")
}

func put(table, key, text string) api.Step {
	return api.Step{Kind: api.StepPut, Table: table, Key: key, Text: text}
}

func drop(table, key string) api.Step {
	return api.Step{Kind: api.StepDrop, Table: table, Key: key}
}

func rename(table, key, to string) api.Step {
	return api.Step{Kind: api.StepRename, Table: table, Key: key, To: to}
}

func retable(table, to string) api.Step {
	return api.Step{Kind: api.StepTable, Table: table, To: to}
}

func mapBy(table, function string) api.Step {
	return api.Step{Kind: api.StepMap, Table: table, Text: function}
}

func copyTo(table, key, to string) api.Step {
	return api.Step{Kind: api.StepCopy, Table: table, Key: key, To: to}
}

// long is a text of so many bytes.
func long(length int) string {
	return strings.Repeat("abcdefghi ", length/10+1)[:length]
}

// many are pairs of one table, with the keys k000, k001 and so on.
func many(table string, count int) []api.Pair {
	var l []api.Pair
	for n := range count {
		key := "k" + string([]byte{byte('0' + n/100), byte('0' + n/10%10), byte('0' + n%10)})
		l = append(l, api.Pair{Table: table, Key: key, Value: key[1:]})
	}
	return l
}

// eachText calls use with each text of at most most bytes, all of them from letters.
func eachText(letters string, most int, use func(s string)) {
	var grow func(s []byte)
	grow = func(s []byte) {
		use(string(s))
		if len(s) == most {
			return
		}
		for i := range len(letters) {
			grow(append(s, letters[i]))
		}
	}
	grow(make([]byte, 0, most))
}

// seeded are numbers, for each seed the same row of them.
type seeded struct{ state uint64 }

func numbers(seed int) *seeded { return &seeded{uint64(seed)*2654435761 + 1} }

func (x *seeded) next() int {
	x.state = x.state*6364136223846793005 + 1442695040888963407
	return int(x.state >> 34)
}

func pick[E any](x *seeded, l []E) E {
	return l[x.next()%len(l)]
}
