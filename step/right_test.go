package step_test

import (
	"math"
	"strings"
	"testing"

	"tinderbox/api"
	"tinderbox/step"
)

// M1: Right

// words are some, and notWords are none, but nearly. (The empty one is none either.)
var (
	words    = []string{"a", "z", "0", "9", "-", "_", ".", "1-_.", "a.b", "users", "moves", "settings", "double", strings.Repeat("a", 32), strings.Repeat(".", 32)}
	notWords = []string{"A", "aB", " ", "a b", " a", "a ", "a,b", "a/b", "a=b", "a\n", "\x00", "a\x00", "\xff", "ä", "a+", strings.Repeat("a", 33), strings.Repeat("a", 300)}
)

// wantRight: whether steps are right.
func wantRight(t *testing.T, want bool, all ...api.Step) {
	t.Helper()
	for _, s := range all {
		if got := checkRight(t, s); got != want {
			t.Errorf("Right of %+v: %t", s, got)
		}
	}
}

// rightOnes are steps of each kind, with words for what a word must be.
func rightOnes(word string) []api.Step {
	return []api.Step{
		put(word, "k", "7"), put("a", word, "7"), put("a", "k", ""), put(word, word, word),
		drop(word, "k"), drop("a", word), drop(word, ""), drop(word, word),
		rename(word, "k", "z"), rename("a", word, "z"), rename("a", "k", word), rename(word, word, word),
		retable(word, "c"), retable("a", word), retable(word, word),
		mapBy(word, "double"),
		copyTo(word, "k", "z"), copyTo("a", word, "z"), copyTo("a", "k", word), copyTo(word, word, word),
	}
}

func TestWordsOfSteps(t *testing.T) {
	for _, word := range words {
		wantRight(t, true, rightOnes(word)...)
	}
}

func TestWhatIsNoWord(t *testing.T) {
	for _, none := range append([]string{""}, notWords...) {
		wantRight(t, false,
			put(none, "k", "7"), put("a", none, "7"),
			drop(none, "k"), drop(none, ""),
			rename(none, "k", "z"), rename("a", none, "z"), rename("a", "k", none),
			retable(none, "c"), retable("a", none),
			mapBy(none, "double"),
			copyTo(none, "k", "z"), copyTo("a", none, "z"), copyTo("a", "k", none))
		if none != "" {
			wantRight(t, false, drop("a", none))
		}
	}
}

// What the table does not name must be empty.
func TestWhatMustBeEmpty(t *testing.T) {
	for _, given := range append(append([]string{"double", "none", long(201)}, words...), notWords...) {
		for _, s := range []api.Step{put("a", "k", "7"), drop("a", "k"), drop("a", ""), mapBy("a", "double")} {
			s.To = given
			wantRight(t, false, s)
		}
		for _, s := range []api.Step{drop("a", "k"), drop("a", ""), rename("a", "k", "z"), retable("a", "c"), copyTo("a", "k", "z")} {
			s.Text = given
			wantRight(t, false, s)
		}
		for _, s := range []api.Step{retable("a", "c"), mapBy("a", "double")} {
			s.Key = given
			wantRight(t, false, s)
		}
	}
}

func TestKindsThatAreNone(t *testing.T) {
	for _, kind := range []int{0, 7, 8, -1, -2, -6, 256 + 1, 1<<32 + 1, -1 << 32, 1 << 62, math.MaxInt, math.MinInt} {
		for _, s := range append(rightOnes("a"), api.Step{}) {
			s.Kind = kind
			wantRight(t, false, s)
		}
	}
	wantRight(t, false, api.Step{})
}

func TestTextsOfPut(t *testing.T) {
	for length := range 300 {
		wantRight(t, length <= 200, put("a", "k", long(length)))
	}
	for b := range 256 {
		wantRight(t, true, put("a", "k", strings.Repeat(string([]byte{byte(b)}), 200)))
		wantRight(t, false, put("a", "k", strings.Repeat(string([]byte{byte(b)}), 201)))
	}
	// Bytes are counted, not runes.
	wantRight(t, true, put("a", "k", strings.Repeat("ä", 100)))
	wantRight(t, false, put("a", "k", strings.Repeat("ä", 101)), put("a", "k", strings.Repeat("a", 1<<24)), put("a", "k", strings.Repeat("a", 256)), put("a", "k", strings.Repeat("a", 1<<16)))
}

func TestFunctionsOfMap(t *testing.T) {
	for _, name := range step.Functions() {
		wantRight(t, true, mapBy("a", name))
		wantRight(t, false, mapBy("a", name+"s"), mapBy("a", " "+name), mapBy("a", name+" "), mapBy("a", name[1:]), mapBy("a", name[:len(name)-1]), mapBy("a", strings.ToUpper(name)), mapBy("a", toUpper.Replace(name[:1])+name[1:]), mapBy("a", name+"\x00"))
	}
	wantRight(t, false, mapBy("a", ""), mapBy("a", "none"), mapBy("a", "double,lower"), mapBy("a", "title"), mapBy("a", strings.Repeat("double", 1<<20)))
}

// Each byte, as a word, at the beginning, within and at the end of one.
func TestBytesOfWords(t *testing.T) {
	for b := range 256 {
		c := string([]byte{byte(b)})
		for _, word := range []string{c, c + "a", "a" + c, "a" + c + "a"} {
			for _, s := range rightOnes(word) {
				checkRight(t, s)
			}
			checkRight(t, mapBy("a", word))
		}
	}
}

// Each kind with all that some fields may have.
func TestAllFieldsOfAllKinds(t *testing.T) {
	texts := []string{"", "a", "k-1", "A", "a b", "double", "upper", "none", strings.Repeat("a", 32), strings.Repeat("a", 33), long(200), long(201)}
	right := 0
	for kind := -2; kind <= 9; kind++ {
		for _, table := range texts {
			for _, key := range texts {
				for _, to := range texts {
					for _, text := range texts {
						if checkRight(t, api.Step{Kind: kind, Table: table, Key: key, To: to, Text: text}) {
							right++
						}
					}
				}
			}
		}
	}
	// Six of the texts are words (none is one), and two are functions.
	if want := 6 * (6*11 + 7 + 6*6 + 6 + 2 + 6*6); right != want {
		t.Errorf("%d were right, not %d", right, want)
	}
}
