package flag_test

import (
	"slices"
	"strings"
	"testing"

	"tinderbox/api"
	"tinderbox/flag"
	"tinderbox/key"
)

// F1: the chapter's examples

func TestParseExamples(t *testing.T) {
	s := key.Standard()
	port, dry := given("net.port", "9002", 0), given("boot.dry", "true", 0)
	wantTold(t, s, words("-p 9002 x --boot.dry -- -q"), api.Args{Given: []api.Given{port, given("boot.dry", "true", 3)}, Rest: []string{"x", "-q"}})
	wantGiven(t, s, words("-p9002"), port)
	wantGiven(t, s, words("--net.port=9002"), port)
	wantGiven(t, s, words("--net.port 9002"), port)
	wantGiven(t, s, words("-nv3"), dry, given("log.level", "3", 0))
	wantGiven(t, s, words("-nv 3"), dry, given("log.level", "3", 0))
	wantGiven(t, s, words("-vn"), given("log.level", "n", 0))
	wantGiven(t, s, words("--no-boot.dry"), given("boot.dry", "false", 0))
	wantGiven(t, s, words("--boot.dry=off"), given("boot.dry", "off", 0))
	wantGiven(t, s, words("-p --"), given("net.port", "--", 0))
	wantTold(t, s, words("-nh"), api.Args{Given: []api.Given{dry}, Help: true})
	wantTold(t, s, words("-"), api.Args{Rest: []string{"-"}})
	wantGiven(t, s, words("--net.url=a=b"), given("net.url", "a=b", 0))
	for args, e := range map[string]api.Errno{
		"--x": api.ErrFlagName, "--no-net.port": api.ErrFlagName, "-q": api.ErrFlagName, "-qN": api.ErrFlagName,
		"--=x": api.ErrFlagForm, "-9": api.ErrFlagForm, "-nN": api.ErrFlagForm,
		"--no-boot.dry=1": api.ErrFlagValue, "--help=1": api.ErrFlagValue,
	} {
		wantWrong(t, s, words(args), e, 0)
	}
	wantWrong(t, s, words("x -p"), api.ErrFlagValue, 1)
}

// F1: sets and arguments of none

func TestParseWithoutASet(t *testing.T) {
	for _, args := range [][]string{nil, {}, {"x"}, {"--"}, {"-h"}, {"--x"}, {"--=x"}, {"x", "-p"}} {
		if told, e, at := flag.Parse(nil, args); !sameArgs(told, api.Args{}) || e != api.ErrArg || at != 0 {
			t.Errorf("Parse of %q without a set: %+v, %d, %d", args, told, e, at)
		}
	}
}

func TestParseOfNoArgument(t *testing.T) {
	for _, s := range []*key.Set{key.New(), new(key.Set), key.Standard(), ownSet()} {
		wantTold(t, s, nil, api.Args{})
		wantTold(t, s, []string{}, api.Args{})
		wantTold(t, s, []string{"-n"}[:0], api.Args{})
	}
}

func TestParseWithASetOfNone(t *testing.T) {
	for _, s := range []*key.Set{key.New(), new(key.Set)} {
		wantTold(t, s, words("x --help - -- -q --"), api.Args{Rest: []string{"x", "-", "-q", "--"}, Help: true})
		wantTold(t, s, words("-hhh"), api.Args{Help: true})
		for _, k := range key.Standard().All() {
			wantWrong(t, s, []string{"x", "--" + k.Name + "=1"}, api.ErrFlagName, 1)
			wantWrong(t, s, []string{"--no-" + k.Name}, api.ErrFlagName, 0)
			if k.Letter != "" {
				wantWrong(t, s, []string{"-h" + k.Letter}, api.ErrFlagName, 0)
			}
		}
		wantWrong(t, s, words("--help=x"), api.ErrFlagValue, 0)
		wantWrong(t, s, words("--=x"), api.ErrFlagForm, 0)
	}
}

// Each definition is asked for by its name and letter in the set that has it, and in no other one.
func TestParseWithSetsOfACallersOwn(t *testing.T) {
	s, own := key.Standard(), ownSet()
	for _, k := range s.All() {
		wantGiven(t, s, []string{"--" + k.Name + "=x"}, given(k.Name, "x", 0))
		wantWrong(t, own, []string{"--" + k.Name + "=x"}, api.ErrFlagName, 0)
	}
	for _, k := range own.All() {
		wantGiven(t, own, []string{"--" + k.Name + "=x"}, given(k.Name, "x", 0))
		if k.Name != "help" {
			wantWrong(t, s, []string{"--" + k.Name + "=x"}, api.ErrFlagName, 0)
		}
	}
	if e := s.Add(api.Key{Name: "x", Kind: api.Bool, Default: "no", Letter: "q"}); e != api.OK {
		t.Fatal(e)
	}
	wantGiven(t, s, words("-q --x -nq"), given("x", "true", 0), given("x", "true", 1), given("boot.dry", "true", 2), given("x", "true", 2))
}

// F1: what is no flag

func TestParseOfWhatIsNoFlag(t *testing.T) {
	s := key.Standard()
	for _, arg := range []string{"", "-", "x", "9", "=", "=x", "p", "net.port", "net.port=1", "help", "h", "no-boot.dry", " ", " -n", " --x", "\n", "\x00", "+n", "/h", "\u2013n", "\u2014x", "\xff-", "\xad", "x-", "x--", "\x002d", strings.Repeat("x", 10_000)} {
		wantTold(t, s, []string{arg}, api.Args{Rest: []string{arg}})
		wantTold(t, s, []string{arg, "-n", arg, arg}, api.Args{Given: []api.Given{given("boot.dry", "true", 1)}, Rest: []string{arg, arg, arg}})
	}
	wantTold(t, s, words("c a - b -n a"), api.Args{Given: []api.Given{given("boot.dry", "true", 4)}, Rest: words("c a - b a")})
}

func TestTheEndOfFlags(t *testing.T) {
	s := key.Standard()
	wantTold(t, s, words("--"), api.Args{})
	wantTold(t, s, words("-- --"), api.Args{Rest: words("--")})
	wantTold(t, s, words("-- -- --"), api.Args{Rest: words("-- --")})
	wantTold(t, s, words("x --"), api.Args{Rest: words("x")})
	wantTold(t, s, words("x -- y -- z"), api.Args{Rest: words("x y -- z")})
	wantGiven(t, s, words("-n --"), given("boot.dry", "true", 0))
	for _, arg := range append(slices.Clone(manyTexts), "-q", "-9", "-nN", "--=x", "--no-net.port", "--no-boot.dry=1", "--help=1", "-n", "--boot.dry", "-p") {
		wantTold(t, s, []string{"--", arg}, api.Args{Rest: []string{arg}})
		wantTold(t, s, []string{"x", "--", arg, "--", arg}, api.Args{Rest: []string{"x", arg, "--", arg}})
	}
}

// `--` and more is a word, whatever it begins with.
func TestWhatOnlyLooksLikeTheEndOfFlags(t *testing.T) {
	s := key.Standard()
	for _, arg := range []string{"---", "----", "-- ", "--\n", "--\x00", "--x", "---n", "--- ", "--\xff", "--.", "---=x"} {
		wantWrong(t, s, []string{"-n", arg, "x"}, api.ErrFlagName, 1)
	}
}

// F1: help

func TestHelp(t *testing.T) {
	s := key.Standard()
	for _, args := range []string{"--help", "-h", "--help -h", "-hh", "-h --help --", "-hhhh"} {
		wantTold(t, s, words(args), api.Args{Help: true})
	}
	dry := []api.Given{given("boot.dry", "true", 0)}
	for _, args := range []string{"-nh", "-hn", "-hnh"} {
		wantTold(t, s, words(args), api.Args{Given: dry, Help: true})
	}
	wantTold(t, s, words("x --help y"), api.Args{Rest: words("x y"), Help: true})
	wantTold(t, s, words("-hp 1"), api.Args{Given: []api.Given{given("net.port", "1", 0)}, Help: true})
	wantGiven(t, s, words("-ph"), given("net.port", "h", 0))
	wantGiven(t, s, words("-nph"), given("boot.dry", "true", 0), given("net.port", "h", 0))
	wantGiven(t, s, words("-p -h"), given("net.port", "-h", 0))
	wantGiven(t, s, words("--net.port --help"), given("net.port", "--help", 0))
	for _, arg := range []string{"--help=", "--help=1", "--help=true", "--help==", "--help=help"} {
		wantWrong(t, s, []string{"-h", arg}, api.ErrFlagValue, 1)
	}
	for _, arg := range []string{"--h", "--helpx", "--hel", "--Help", "--HELP", "--no-help", "--help ", "-help.", "--h=1", "--no-help=1", "-hq"} {
		wantWrong(t, s, []string{"--help", arg}, api.ErrFlagName, 1)
	}
	for _, arg := range []string{"-H", "-h=", "-hN", "-h-", "-h h"} {
		wantWrong(t, s, []string{arg}, api.ErrFlagForm, 0)
	}
}

// A setting may be called help: `--help` alone asks for help nevertheless.
func TestASettingThatIsCalledHelp(t *testing.T) {
	for _, kind := range []int{api.Text, api.Bool} {
		k := api.Key{Name: "help", Kind: kind}
		if kind == api.Bool {
			k.Default = "no"
		}
		s := setOf(k)
		wantTold(t, s, words("--help"), api.Args{Help: true})
		wantTold(t, s, words("--help x"), api.Args{Rest: words("x"), Help: true})
		wantGiven(t, s, words("--help=x"), given("help", "x", 0))
		wantGiven(t, s, words("--help="), given("help", "", 0))
	}
	wantGiven(t, setOf(api.Key{Name: "help", Kind: api.Bool, Default: "no"}), words("--no-help"), given("help", "false", 0))
	wantWrong(t, setOf(api.Key{Name: "help", Kind: api.Text}), words("--no-help"), api.ErrFlagName, 0)
	wantGiven(t, ownSet(), words("--h --no-h --h=x"), given("h", "true", 0), given("h", "false", 1), given("h", "x", 2))
}

// F1: words

func TestWordsWithATextBehindThem(t *testing.T) {
	s := ownSet()
	for _, k := range s.All() {
		for _, text := range manyTexts {
			wantGiven(t, s, []string{"--" + k.Name + "=" + text}, given(k.Name, text, 0))
			wantTold(t, s, []string{"a", "--" + k.Name + "=" + text, "b"}, api.Args{Given: []api.Given{given(k.Name, text, 1)}, Rest: []string{"a", "b"}})
		}
	}
}

func TestBoolsWithoutAText(t *testing.T) {
	s := ownSet()
	for _, name := range []string{"bool", "bool2", "no", "h", "true.false.no"} {
		wantGiven(t, s, []string{"--" + name}, given(name, "true", 0))
		wantTold(t, s, []string{"--" + name, "false"}, api.Args{Given: []api.Given{given(name, "true", 0)}, Rest: []string{"false"}})
		wantGiven(t, s, []string{"--" + name, "--" + name}, given(name, "true", 0), given(name, "true", 1))
	}
}

func TestOthersWithTheNextArgument(t *testing.T) {
	s := ownSet()
	for name, letter := range others {
		if name == "help" {
			continue
		}
		flags := []string{"--" + name}
		if letter != "" {
			flags = append(flags, "-"+letter)
		}
		for _, arg := range flags {
			for _, text := range append(slices.Clone(manyTexts), "--"+name, "-"+letter) {
				wantGiven(t, s, []string{arg, text}, given(name, text, 0))
				wantTold(t, s, []string{"x", arg, text, "y"}, api.Args{Given: []api.Given{given(name, text, 1)}, Rest: []string{"x", "y"}})
				wantGiven(t, s, []string{arg, text, arg, text, "-b"}, given(name, text, 0), given(name, text, 2), given("bool", "true", 4))
			}
			wantWrong(t, s, []string{arg}, api.ErrFlagValue, 0)
			wantWrong(t, s, []string{"x", "-b", arg}, api.ErrFlagValue, 2)
			wantWrong(t, s, []string{arg, arg, arg}, api.ErrFlagValue, 2)
		}
	}
}

// An argument that was read as a text is read as nothing else: what would be wrong there is not.
func TestATextIsNotReadAgain(t *testing.T) {
	s := key.Standard()
	wantGiven(t, s, words("-p --x -p -q -p --=x -p -9"), given("net.port", "--x", 0), given("net.port", "-q", 2), given("net.port", "--=x", 4), given("net.port", "-9", 6))
	wantGiven(t, s, words("--net.port -- --boot.dry"), given("net.port", "--", 0), given("boot.dry", "true", 2))
	wantTold(t, s, words("-p -- -- -p"), api.Args{Given: []api.Given{given("net.port", "--", 0)}, Rest: words("-p")})
	wantGiven(t, s, words("-p -p -v -v"), given("net.port", "-p", 0), given("log.level", "-v", 2))
	wantWrong(t, s, words("-p -p -p"), api.ErrFlagValue, 2)
	wantGiven(t, s, []string{"-p", "", "--net.url", ""}, given("net.port", "", 0), given("net.url", "", 2))
}

func TestNegatedWords(t *testing.T) {
	s := ownSet()
	for _, name := range []string{"bool", "bool2", "no", "h", "true.false.no"} {
		wantGiven(t, s, []string{"--no-" + name}, given(name, "false", 0))
		wantTold(t, s, []string{"--no-" + name, "true", "--no-" + name}, api.Args{Given: []api.Given{given(name, "false", 0), given(name, "false", 2)}, Rest: words("true")})
		for _, text := range manyTexts {
			wantWrong(t, s, []string{"x", "--no-" + name + "=" + text}, api.ErrFlagValue, 1)
		}
	}
	for name := range others {
		for _, arg := range []string{"--no-" + name, "--no-" + name + "=", "--no-" + name + "=x"} {
			wantWrong(t, s, []string{"x", arg, "y"}, api.ErrFlagName, 1)
		}
	}
	for _, word := range []string{"no-", "no-x", "no-no-bool", "no-no-", "nobool", "no.bool", "no_bool", "No-bool", "NO-bool", "no--bool", "-no-bool", "no-bool ", "no- bool", "no-b", "no-boo", "no-bool3", "no-\nbool", "no-bool\x00", "n-bool", "not-bool", "yes-bool", "bool-no"} {
		for _, behind := range []string{"", "=", "=x"} {
			wantWrong(t, s, []string{"--" + word + behind}, api.ErrFlagName, 0)
		}
	}
}

func TestWordsThatStandForNothing(t *testing.T) {
	s := key.Standard()
	for _, word := range []string{"x", "net", "net.", "net.por", "net.portx", "net.port.", "net.port ", " net.port", ".net.port", "Net.Port", "NET.PORT", "net_port", "net-port", "net,port", "net.port\n", "net.port\x00", "net.port\xff", "p", "n", "-p", "-n", "-net.port", "\x00", "\xff", "\u00e4", ".", "..", ":", "net.port:1", strings.Repeat("n", 33), strings.Repeat("net.port", 10_000)} {
		for _, behind := range []string{"", "=", "=x", "=="} {
			wantWrong(t, s, []string{"--" + word + behind}, api.ErrFlagName, 0)
			wantWrong(t, s, []string{"-n", "--" + word + behind, "--=x"}, api.ErrFlagName, 1)
		}
	}
}

func TestTheEmptyWord(t *testing.T) {
	for _, s := range []*key.Set{key.Standard(), ownSet(), key.New()} {
		for _, arg := range []string{"--=", "--=x", "--==", "--=net.port=1", "--=help", "--=-", "--=\n"} {
			wantWrong(t, s, []string{arg}, api.ErrFlagForm, 0)
			wantWrong(t, s, []string{"x", "-h", arg, "--x"}, api.ErrFlagForm, 2)
		}
	}
}

// F1: rows of letters

func TestRowsOfLetters(t *testing.T) {
	s := ownSet()
	b, n, g := given("bool", "true", 0), given("no", "true", 0), given("true.false.no", "true", 0)
	wantGiven(t, s, words("-b"), b)
	wantGiven(t, s, words("-bng"), b, n, g)
	wantGiven(t, s, words("-gnbbg"), g, n, b, b, g)
	wantTold(t, s, words("-bhn x"), api.Args{Given: []api.Given{b, n}, Rest: words("x"), Help: true})
	for name, letter := range others {
		if letter == "" {
			continue
		}
		for _, text := range []string{"x", "9002", "b", "n", "bn", "h", "i", "hb", "=", "=x", "a=b", "-", "--", "-b", "N", "9", " ", "\n", "\x00", "\xff", "\u00e4", "false", "q", strings.Repeat("b", 1000)} {
			wantGiven(t, s, []string{"-" + letter + text}, given(name, text, 0))
			wantGiven(t, s, []string{"-b" + letter + text}, b, given(name, text, 0))
			wantTold(t, s, []string{"-nb" + letter + text, "x"}, api.Args{Given: []api.Given{n, b, given(name, text, 0)}, Rest: words("x")})
		}
		for _, text := range manyTexts {
			wantGiven(t, s, []string{"-b" + letter, text}, b, given(name, text, 0))
			wantTold(t, s, []string{"-h" + letter, text, "x"}, api.Args{Given: []api.Given{given(name, text, 0)}, Rest: words("x"), Help: true})
		}
		wantWrong(t, s, []string{"-b" + letter}, api.ErrFlagValue, 0)
		wantWrong(t, s, []string{"x", "-bhn" + letter}, api.ErrFlagValue, 1)
	}
}

func TestRowsWithEachByte(t *testing.T) {
	s := ownSet()
	for b := range 256 {
		letter := oneByte(b)
		_, found := s.Letter(letter)
		switch {
		case b < 'a' || b > 'z':
			if letter != "-" {
				wantWrong(t, s, []string{"-" + letter}, api.ErrFlagForm, 0)
			}
			wantWrong(t, s, []string{"-b" + letter}, api.ErrFlagForm, 0)
			wantWrong(t, s, []string{"x", "-b" + letter + "q"}, api.ErrFlagForm, 1)
		case letter != "h" && !found:
			wantWrong(t, s, []string{"-" + letter}, api.ErrFlagName, 0)
			wantWrong(t, s, []string{"-b" + letter}, api.ErrFlagName, 0)
			wantWrong(t, s, []string{"x", "-b" + letter + "9"}, api.ErrFlagName, 1)
		}
		for _, args := range [][]string{{letter}, {"-" + letter}, {"-" + letter, "x"}, {"-b" + letter}, {"-b" + letter + "n", "x"}, {"-i" + letter}, {"-" + letter + "b"}, {"--" + letter}, {"--bool" + letter}, {"--int" + letter, "x"}, {"--" + letter + "bool"}, {"--no-bool" + letter}, {"--no" + letter + "bool"}, {"--help" + letter}, {"-h" + letter}} {
			checkParse(t, s, args)
		}
	}
}

// Each letter is read wholly ahead of the next: the first one that is wrong is told.
func TestTheFirstWrongLetterIsTold(t *testing.T) {
	s := key.Standard()
	for row, e := range map[string]api.Errno{"-q9": api.ErrFlagName, "-9q": api.ErrFlagForm, "-nq9": api.ErrFlagName, "-n9q": api.ErrFlagForm, "-n-": api.ErrFlagForm, "-n=": api.ErrFlagForm, "-n=true": api.ErrFlagForm, "-np": api.ErrFlagValue, "-nQ": api.ErrFlagForm, "-q=": api.ErrFlagName, "-\u00e4": api.ErrFlagForm, "-n\u00e4": api.ErrFlagForm, "-qp": api.ErrFlagName, "-Np": api.ErrFlagForm, "- ": api.ErrFlagForm, "-\n": api.ErrFlagForm, "-.": api.ErrFlagForm, "-net.port=1": api.ErrFlagName} {
		wantWrong(t, s, []string{row}, e, 0)
		wantWrong(t, s, []string{"x", "--boot.dry", row}, e, 2)
	}
	wantGiven(t, s, words("-boot.dry"), given("store.blocks", "oot.dry", 0))
	wantGiven(t, s, words("-npq9"), given("boot.dry", "true", 0), given("net.port", "q9", 0))
}

// F1: order, and places

func TestSettingsThatAreGivenAgain(t *testing.T) {
	s := key.Standard()
	wantGiven(t, s, words("-p 1 -p 2 -p1 --net.port=2 --net.port 1"), given("net.port", "1", 0), given("net.port", "2", 2), given("net.port", "1", 4), given("net.port", "2", 5), given("net.port", "1", 6))
	wantGiven(t, s, words("-nn --boot.dry --no-boot.dry -n"), given("boot.dry", "true", 0), given("boot.dry", "true", 0), given("boot.dry", "true", 1), given("boot.dry", "false", 2), given("boot.dry", "true", 3))
}

func TestOrderAndPlaces(t *testing.T) {
	s := key.Standard()
	wantTold(t, s, words("z -v 3 --store.dir=/x a -np 1 -- -n"), api.Args{
		Given: []api.Given{given("log.level", "3", 1), given("store.dir", "/x", 3), given("boot.dry", "true", 5), given("net.port", "1", 5)}, Rest: words("z a -n"),
	})
	for count := range 40 {
		args := slices.Repeat([]string{"x"}, count)
		wantTold(t, s, append(args, "-p", "1"), api.Args{Given: []api.Given{given("net.port", "1", count)}, Rest: args})
		for arg, e := range map[string]api.Errno{"-p": api.ErrFlagValue, "-q": api.ErrFlagName, "-9": api.ErrFlagForm, "--x": api.ErrFlagName, "--=": api.ErrFlagForm, "--help=": api.ErrFlagValue, "--net.port": api.ErrFlagValue, "--no-boot.dry=": api.ErrFlagValue} {
			wantWrong(t, s, append(slices.Clone(args), arg), e, count)
		}
	}
}

// Of several wrong arguments the first one is told, whatever its error.
func TestTheFirstWrongArgumentIsTold(t *testing.T) {
	s := key.Standard()
	wrongs := map[string]api.Errno{"-q": api.ErrFlagName, "-9": api.ErrFlagForm, "--x": api.ErrFlagName, "--=": api.ErrFlagForm, "--help=": api.ErrFlagValue, "--no-boot.dry=": api.ErrFlagValue}
	for one, e := range wrongs {
		for other := range wrongs {
			wantWrong(t, s, []string{"-n", one, "x", other, "-p"}, e, 1)
			wantWrong(t, s, []string{"-p", other, one, other, "--"}, e, 2)
			wantTold(t, s, []string{"-p", one, "--", one, other}, api.Args{Given: []api.Given{given("net.port", one, 0)}, Rest: []string{one, other}})
		}
	}
}

// F1, R1: many arguments, and long ones

func TestManyAndLongArguments(t *testing.T) {
	s := key.Standard()
	row, e, _ := flag.Parse(s, []string{"-" + strings.Repeat("n", 1<<18)})
	if len(row.Given) != 1<<18 || e != api.OK || slices.ContainsFunc(row.Given, func(g api.Given) bool { return g != given("boot.dry", "true", 0) }) {
		t.Errorf("a long row of letters: %d, %d", len(row.Given), e)
	}
	many, e, _ := flag.Parse(s, slices.Repeat([]string{"-p", "-n", "x"}, 1<<17))
	if len(many.Given) != 1<<17 || len(many.Rest) != 1<<17 || e != api.OK || many.Given[1<<17-1] != given("net.port", "-n", 3*(1<<17-1)) {
		t.Errorf("many arguments: %d, %d, %d", len(many.Given), len(many.Rest), e)
	}
	long := strings.Repeat("-x=", 1<<20)
	wantGiven(t, s, []string{"--net.url=" + long, "-p" + long, "-p", long}, given("net.url", long, 0), given("net.port", long, 1), given("net.port", long, 2))
	for arg, e := range map[string]api.Errno{"--" + long: api.ErrFlagName, "-" + strings.Repeat("nh", 1<<16) + "N": api.ErrFlagForm, "--no-" + long: api.ErrFlagName, "--boot.dry" + long: api.ErrFlagName, "--no-boot.dry=" + long: api.ErrFlagValue} {
		if told, got, at := flag.Parse(s, []string{"x", arg}); !sameArgs(told, api.Args{}) || got != e || at != 1 {
			t.Errorf("Parse of %.20q..: %d, %d", arg, got, at)
		}
	}
}

// F1: all short arguments over chosen letters

// eachText calls use with each text of so many bytes at most.
func eachText(letters string, most int, use func(s string)) {
	var grow func(s []byte)
	grow = func(s []byte) {
		use(string(s))
		if len(s) == most {
			return
		}
		for i := range len(letters) {
			grow(append(s, letters[i]))
		}
	}
	grow(nil)
}

// shortSet has names and letters that are made of few bytes.
func shortSet() *key.Set {
	return setOf(
		api.Key{Name: "n", Kind: api.Bool, Default: "no", Letter: "n"}, api.Key{Name: "no", Kind: api.Bool, Default: "no"}, api.Key{Name: "o", Kind: api.Text, Letter: "o"}, api.Key{Name: "oo", Kind: api.Int, Default: "0"}, api.Key{Name: "on", Kind: api.Bool, Default: "no"},
	)
}

func TestAllShortArguments(t *testing.T) {
	s := shortSet()
	eachText("-=noh", 7, func(arg string) {
		checkParse(t, s, []string{arg})
	})
	eachText("-=noA", 5, func(arg string) {
		checkParse(t, s, []string{arg, "n"})
	})
}

func TestAllPairsAndTriplesOfShortArguments(t *testing.T) {
	s := shortSet()
	var long, short []string
	eachText("-=no", 4, func(arg string) { long = append(long, arg) })
	eachText("-no", 3, func(arg string) { short = append(short, arg) })
	for _, one := range long {
		for _, two := range long {
			checkParse(t, s, []string{one, two})
		}
	}
	for _, one := range short {
		for _, two := range short {
			for _, three := range short {
				checkParse(t, s, []string{one, two, three})
			}
		}
	}
}
