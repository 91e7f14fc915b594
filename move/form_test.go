package move_test

import (
	"slices"
	"strings"
	"testing"

	"tinderbox/api"
	"tinderbox/move"
)

// M1: which moves are right

func TestIDs(t *testing.T) {
	for _, id := range []string{"a", "b01", "0", "-", ".", "_", "..", "a.b-c_9", "moves", "settings", strings.Repeat("a", 31), strings.Repeat("z", 32), strings.Repeat("-", 32)} {
		wantTaken(t, plain(id))
	}
	for _, id := range []string{"", "A", "aB", "a b", " a", "a ", "a\n", "a\x00", "a/b", "a,b", "\xff", "ä", "a:", "{", "`", strings.Repeat("a", 33), strings.Repeat("a", 32) + "\x00", strings.Repeat("a", 1<<20)} {
		wantNone(t, plain(id), plain(id, "b1"))
	}
}

// Each byte, alone, first, between and last.
func TestIDsAndNeedsOfEachByte(t *testing.T) {
	for b := range 256 {
		c := string([]byte{byte(b)})
		for _, id := range []string{c, c + "b", "a" + c + "b", "a" + c} {
			for _, m := range []api.Move{plain(id), plain("q1", id)} {
				if wordForm.MatchString(id) {
					wantTaken(t, m)
				} else {
					wantNone(t, m)
				}
			}
		}
	}
}

func TestHowManyNeeds(t *testing.T) {
	eight := []string{"b", "c", "d", "e", "f", "g", "h", "i"}
	for count := range 9 {
		wantTaken(t, plain("a", eight[:count]...), plain("z", eight[8-count:]...))
	}
	wantTaken(t, api.Move{ID: "a", Needs: []string{}, Steps: []api.Step{root}})
	wantNone(t, plain("a", append(eight, "j")...), plain("a", append([]string{"a0"}, eight...)...), plain("a", many(30)[8].Needs[0], "b"))
	var needs []string
	for _, m := range many(64) {
		needs = append(needs, m.ID)
	}
	slices.Sort(needs)
	wantNone(t, plain("a", needs...), plain("a", needs[:9]...), plain("a", make([]string, 1<<16)...))
}

func TestNeedsThatDoNotRise(t *testing.T) {
	wantTaken(t, plain("z", "a", "a-", "a.", "a0", "a_", "aa", "b"), plain("z", "-", ".", "0", "9", "_", "a", "y"), plain("a", "b1", "c1"))
	wantNone(t, plain("z", "c1", "b1"), plain("z", "b", "a", "c"), plain("z", "a", "c", "b"), plain("z", "b", "c", "a"), plain("z", "a0", "a-"), plain("z", "aa", "a"), plain("z", "_", "0"), plain("z", "b10", "b1", "b2"))
	eight := []string{"b", "c", "d", "e", "f", "g", "h", "i"}
	for at := range 7 {
		fallen := slices.Clone(eight)
		fallen[at], fallen[at+1] = fallen[at+1], fallen[at]
		wantNone(t, plain("a", fallen...))
	}
}

func TestNeedsThatStandTwice(t *testing.T) {
	wantNone(t, plain("z", "a", "a"), plain("z", "a", "a", "b"), plain("z", "a", "b", "b"), plain("z", "a", "b", "a"), plain("z", "b", "a", "b"), plain("z", "a", "a", "a"))
	eight := []string{"b", "c", "d", "e", "f", "g", "h", "i"}
	for at := range 7 {
		twice := slices.Clone(eight)
		twice[at+1] = twice[at]
		wantNone(t, plain("a", twice...))
	}
}

func TestNeedsThatAreNoWords(t *testing.T) {
	for _, need := range []string{"", "A", "a b", "a\x00", "\xff", "a/", strings.Repeat("c", 33), strings.Repeat("c", 1<<20)} {
		// Rising ones among them too: only their form is wrong.
		wantNone(t, plain("z", need), plain("z", need, "zz"), plain("z", "0", need), plain("z", "-", need, "zz"), plain("z", "b", "c", need), plain("z", need, "b", "c"))
	}
	wantTaken(t, plain("z", strings.Repeat("c", 32)), plain("z", strings.Repeat("c", 31), strings.Repeat("c", 32)))
}

func TestNeedsThatHoldTheMoveItself(t *testing.T) {
	wantNone(t, plain("a", "a"), plain("a", "a", "b", "c"), plain("b", "a", "b", "c"), plain("c", "a", "b", "c"), plain("moves", "moves"))
	eight := []string{"b", "c", "d", "e", "f", "g", "h", "i"}
	for _, id := range eight {
		wantNone(t, plain(id, eight...))
	}
	// What its ID goes on from, or what goes on from it, is another one.
	wantTaken(t, plain("b1", "b", "b10"), plain("b", "a", "b-", "bb"), plain("bb", "b", "bbb"))
}

// oneOfEach are a step of each kind.
func oneOfEach(table string) []api.Step {
	return []api.Step{put(table, "k", "x"), drop(table, "k"), drop(table, ""), rename(table, "k", "l"), retable(table, "people"), mapBy(table, "upper"), copyTo(table, "k", "l")}
}

func TestHowManySteps(t *testing.T) {
	wantTaken(t, doing(oneOfEach("users")...))
	for _, s := range oneOfEach("users") {
		for _, count := range []int{1, 2, 15, 16} {
			wantTaken(t, doing(slices.Repeat([]api.Step{s}, count)...))
		}
		for _, count := range []int{0, 17, 18, 32, 33, 1 << 16} {
			wantNone(t, doing(slices.Repeat([]api.Step{s}, count)...))
		}
	}
	wantNone(t, api.Move{ID: "a1"}, api.Move{ID: "a1", Steps: []api.Step{}}, doing(make([]api.Step, 17)...))
}

// wrongSteps are not right: some of each kind, each nearly right, and some of no kind.
func wrongSteps() []api.Step {
	var all []api.Step
	for _, s := range oneOfEach("users") {
		for _, wrong := range []func(*api.Step){
			func(s *api.Step) { s.Table = "" },
			func(s *api.Step) { s.Table = "Users" },
			func(s *api.Step) { s.Table = strings.Repeat("u", 33) },
			func(s *api.Step) { s.Key += "K" },
			func(s *api.Step) { s.To += " " },
			func(s *api.Step) { s.Text += strings.Repeat("x", 200) },
			func(s *api.Step) { s.Kind = 0 },
			func(s *api.Step) { s.Kind = 7 },
			func(s *api.Step) { s.Kind = -s.Kind },
			func(s *api.Step) { s.Kind += 256 },
			func(s *api.Step) { s.Kind += 1 << 32 },
		} {
			w := s
			wrong(&w)
			all = append(all, w)
		}
	}
	all = append(all, api.Step{}, api.Step{Kind: 9, Table: "a"}, put("users", "", "x"), put("users", "k", strings.Repeat("x", 201)), mapBy("users", "none"), mapBy("users", ""), mapBy("users", "moves"))
	all = append(all, rename("users", "", "l"), rename("users", "k", ""), retable("users", ""), copyTo("users", "", "l"), copyTo("users", "k", ""))
	return all
}

// among calls use with a step alone, and first, between and last among others, up to sixteen.
func among(s api.Step, use func(steps []api.Step)) {
	use([]api.Step{s})
	for _, count := range []int{2, 3, 16} {
		for _, at := range []int{0, count / 2, count - 1} {
			steps := slices.Repeat([]api.Step{root}, count)
			steps[at] = s
			use(steps)
		}
	}
	steps := oneOfEach("users")
	for at := range len(steps) + 1 {
		use(slices.Insert(slices.Clone(steps), at, s))
	}
}

func TestStepsThatAreNotRight(t *testing.T) {
	for _, s := range wrongSteps() {
		among(s, func(steps []api.Step) { wantNone(t, doing(steps...)) })
	}
}

func TestStepsThatSpeakOfTheTablesMovesAndSettings(t *testing.T) {
	for _, table := range []string{"moves", "settings"} {
		for _, s := range append(oneOfEach(table), retable("users", table), retable("moves", table), retable("settings", table)) {
			among(s, func(steps []api.Step) { wantNone(t, doing(steps...)) })
		}
	}
}

func TestTheWordsMovesAndSettingsElsewhere(t *testing.T) {
	for _, word := range []string{"moves", "settings"} {
		for _, s := range []api.Step{
			put("users", word, "x"), put("users", "k", word), put("users", word, word), drop("users", word), rename("users", word, "l"), rename("users", "k", word), rename("users", "moves", word), copyTo("users", word, "l"), copyTo("users", "k", word), copyTo("users", "settings", word),
		} {
			among(s, func(steps []api.Step) {
				if len(steps) <= 16 {
					wantTaken(t, doing(steps...))
				}
			})
		}
		wantTaken(t, plain(word), plain("a1", word), plain("a1", "moves", "settings"))
	}
	// Words that are nearly these are other tables.
	for _, table := range []string{"move", "movess", "moves.", "moves-", "-moves", "m", "setting", "settingss", "settings_", "0settings", "moves.settings"} {
		wantTaken(t, doing(oneOfEach(table)...), doing(retable("users", table)), doing(retable(table, "users")))
	}
}

// Steps of which one could not be made behind another one may stand there all the same.
func TestStepsThatCouldNotBeMade(t *testing.T) {
	wantTaken(t, doing(root, root), doing(retable("users", "users")), doing(rename("users", "k", "k")), doing(put("users", "k", "x"), mapBy("users", "double")))
}

// fewSteps are all steps that a few texts allow, right and wrong.
func fewSteps() []api.Step {
	var all []api.Step
	for kind := range 8 {
		for _, table := range []string{"a", "moves", "settings", "A"} {
			for _, key := range []string{"", "k", "moves", "settings", "K"} {
				for _, to := range []string{"", "k", "moves", "settings"} {
					for _, text := range []string{"", "moves", "settings", "upper"} {
						all = append(all, api.Step{Kind: kind, Table: table, Key: key, To: to, Text: text})
					}
				}
			}
		}
	}
	return all
}

func TestAllFewSteps(t *testing.T) {
	taken := 0
	for _, s := range fewSteps() {
		for _, steps := range [][]api.Step{{s}, {root, s}, {s, root}} {
			if (model{}).add(t, move.New(), doing(steps...)) == api.OK {
				taken++
			}
		}
	}
	// Of the table a: 3 Keys and 4 Texts to put, 4 Keys to drop, 3 and 3 to rename, as many to copy, the To k, and upper.
	if taken != 3*(12+4+9+9+1+1) {
		t.Errorf("%d were taken", taken)
	}
}

// All lists of up to four needs, of a few texts, in each order.
func TestAllFewNeeds(t *testing.T) {
	var grow func(needs []string)
	taken := 0
	grow = func(needs []string) {
		if (model{}).add(t, move.New(), plain("b", needs...)) == api.OK {
			taken++
		}
		if len(needs) == 4 {
			return
		}
		for _, need := range []string{"", "B", "a", "a-", "b", "b1", "c"} {
			grow(append(slices.Clip(needs), need))
		}
	}
	grow(nil)
	// Each choice of a, a-, b1 and c, in one order.
	if taken != 16 {
		t.Errorf("%d were taken", taken)
	}
}
