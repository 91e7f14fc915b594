package env_test

import (
	"slices"
	"strings"
	"testing"

	"tinderbox/api"
	"tinderbox/env"
	"tinderbox/key"
)

// E2: the chapter's examples

func TestParseExamples(t *testing.T) {
	s := key.Standard()
	wantGiven(t, s, words("HOME=/root NET_PORT=9001 PORT=1 NET_PORT="), given("net.port", "9001", 1), given("net.port", "", 3))
	wantWrong(t, s, words("NET_PORTS=1"), api.ErrEnvName, 0)
	for _, pair := range words("NETPORT=1 net_port=1 NET=1") {
		wantGiven(t, s, []string{pair})
	}
	wantWrong(t, s, words("A=1 B"), api.ErrEnvForm, 1)
	wantWrong(t, s, words("=1"), api.ErrEnvForm, 0)
	wantGiven(t, s, words("NET_PORT=a=b"), given("net.port", "a=b", 0))
	debug := setOf(api.Key{Name: "debug", Kind: api.Bool, Default: "no"})
	wantGiven(t, debug, words("DEBUG=1"), given("debug", "1", 0))
	wantWrong(t, debug, words("DEBUG_X=1"), api.ErrEnvName, 0)
}

// E2: sets

func TestParseWithoutASet(t *testing.T) {
	for _, pairs := range [][]string{nil, {}, {"A=1"}, {""}, {"B"}, {"=1"}, {"A=1", "NET_PORT=1", "B"}, {"NET_X=1"}} {
		if told, e, at := env.Parse(nil, pairs); len(told) != 0 || e != api.ErrArg || at != 0 {
			t.Errorf("Parse of %q without a set: %+v, %d, %d", pairs, told, e, at)
		}
	}
}

func TestParseOfNoPair(t *testing.T) {
	for _, s := range append(sets(), key.New(), new(key.Set)) {
		wantGiven(t, s, nil)
		wantGiven(t, s, []string{})
		wantGiven(t, s, []string{"B"}[:0])
	}
}

func TestParseWithASetOfNone(t *testing.T) {
	for _, s := range []*key.Set{key.New(), new(key.Set)} {
		for _, k := range key.Standard().All() {
			called := calledByWords(k.Name)
			wantGiven(t, s, []string{called + "=1", called + "S=1", called + "_=1", "_=", "A=1"})
		}
		wantWrong(t, s, words("NET_PORT=1 B NET_X=1"), api.ErrEnvForm, 1)
		wantWrong(t, s, []string{"A=1", "B=1", ""}, api.ErrEnvForm, 2)
		wantWrong(t, s, words("=A"), api.ErrEnvForm, 0)
	}
}

// Each setting is given by what it is called, in the set that has it, and in no other one.
func TestParseWithSetsOfACallersOwn(t *testing.T) {
	s, own := key.Standard(), ownSet()
	for _, k := range s.All() {
		for _, text := range manyTexts {
			wantGiven(t, s, []string{calledByWords(k.Name) + "=" + text}, given(k.Name, text, 0))
		}
		want := api.OK
		if firstPart(k.Name) == "net" {
			want = api.ErrEnvName
		}
		if _, e, _ := checkParse(t, own, []string{calledByWords(k.Name) + "=x"}); e != want {
			t.Errorf("%s in another set: %d", k.Name, e)
		}
	}
	for _, k := range own.All() {
		for _, text := range manyTexts {
			wantGiven(t, own, []string{"A=1", calledByWords(k.Name) + "=" + text}, given(k.Name, text, 1))
		}
		if k.Name != "net.x" {
			wantGiven(t, s, []string{calledByWords(k.Name) + "=x"})
		}
	}
	wantWrong(t, s, words("NET_X=1"), api.ErrEnvName, 0)
	if e := s.Add(api.Key{Name: "net.x", Kind: api.Text}); e != api.OK {
		t.Fatal(e)
	}
	wantGiven(t, s, words("NET_X=1 NET_PORT=2"), given("net.x", "1", 0), given("net.port", "2", 1))
}

func TestParseWithASetOf64(t *testing.T) {
	s := key.New()
	var pairs []string
	var want []api.Given
	for i := range 64 {
		name := oneByte('a'+i%26) + ".x" + strings.Repeat("0", i/26)
		if e := s.Add(api.Key{Name: name, Kind: api.Text}); e != api.OK {
			t.Fatal(e)
		}
		pairs = append(pairs, calledByWords(name)+"="+name)
		want = append(want, given(name, name, i))
	}
	wantGiven(t, s, pairs, want...)
	for _, pair := range pairs {
		wantWrong(t, s, append(slices.Clone(pairs), "0"+pair, "_"+pair, pair[:1]+"_"+pair), api.ErrEnvName, 66)
	}
}

// What kind a setting is of does not matter, nor what its text would have to be.
func TestParseDoesNotLookIntoTexts(t *testing.T) {
	wantGiven(t, key.Standard(), []string{"NET_PORT=many", "BOOT_DRY=\n", "LOG_KEEP=-1", "NET_PEERS=,,", "NET_URL=${", "STORE_PAGE=1k1"},
		given("net.port", "many", 0), given("boot.dry", "\n", 1), given("log.keep", "-1", 2), given("net.peers", ",,", 3), given("net.url", "${", 4), given("store.page", "1k1", 5))
}

// E2: what is no pair

func TestWhatIsNoPair(t *testing.T) {
	for _, s := range append(sets(), key.New()) {
		for _, pair := range []string{"", "B", "=", "=1", "==", "=A=1", "=NET_PORT=1", "NET_PORT", "NET_X", "NET", "_", " ", "\n", "\x00", "\xff", "net.port", "NET_PORT:1", "NET_PORT\x003D1", strings.Repeat("A", 10_000)} {
			wantWrong(t, s, []string{pair}, api.ErrEnvForm, 0)
			wantWrong(t, s, []string{"A0=1", "B0=", pair, "C=1"}, api.ErrEnvForm, 2)
		}
	}
}

func TestPairsWithSeveralEqualsAndWithNothingBehind(t *testing.T) {
	s := key.Standard()
	for pair, text := range map[string]string{"NET_PORT=": "", "NET_PORT==": "=", "NET_PORT===": "==", "NET_PORT=a=b": "a=b", "NET_PORT==a": "=a", "NET_PORT=a=": "a=", "NET_PORT=NET_PORT=1": "NET_PORT=1", "NET_PORT=NET_X=1": "NET_X=1"} {
		wantGiven(t, s, []string{pair}, given("net.port", text, 0))
	}
	for _, text := range manyTexts {
		wantGiven(t, s, []string{"A=" + text, "NET=" + text})
		wantWrong(t, s, []string{"A=" + text, "NET_X=" + text}, api.ErrEnvName, 1)
	}
}

// E2: names that are passed over

func TestNamesInSmallLetters(t *testing.T) {
	s := key.Standard()
	for _, name := range []string{"net_port", "Net_Port", "nET_PORT", "net_x", "net.port", "net_", "net", "boot_dry", "log_level", "Net_X", "neT_PORT"} {
		wantGiven(t, s, []string{name + "=1", "A=1"})
	}
	for _, name := range []string{"NET_port", "NET_PORt", "NET_pORT", "NET_x", "NET_net.port"} {
		wantWrong(t, s, []string{"A=1", name + "=1"}, api.ErrEnvName, 1)
	}
	own := ownSet()
	wantGiven(t, own, words("debug=1 Debug=1 d=1 d_e=1 d1_e2_b3=1 debug_x=1"))
}

func TestNamesThatOnlyLookLikeSettings(t *testing.T) {
	s := key.Standard()
	for _, name := range []string{"NET", "NETPORT", "NETX", "NETS_PORT", "NET0_PORT", "NE_T", "N_ET_PORT", "PORT", "_PORT", "_NET_PORT", "__NET_", "_", "__", "X_NET_PORT", "XNET_PORT", " NET_PORT", "\nNET_PORT", "\x00NET_PORT", "NET.PORT", "NET-PORT", "NET PORT", "NET\x00_PORT", "NET _PORT", "NET\u00e4_PORT", "N\u00cbT_PORT", "\uff2e\uff25\uff34_PORT", "HOME", "PATH", "LOGNAME", "BOOTS", "STORED", "0", "1NET_X", "TINDERBOX_NET_PORT"} {
		wantGiven(t, s, []string{name + "=1"})
		wantGiven(t, s, []string{name + "=", "NET_PORT=1", name + "=NET_X=1"}, given("net.port", "1", 1))
	}
}

// E2: names that stand for nothing

func TestNamesThatBeginWithAFirstPart(t *testing.T) {
	for _, s := range sets() {
		for _, k := range s.All() {
			first := calledByWords(firstPart(k.Name))
			called := calledByWords(k.Name)
			for _, name := range []string{first + "_", first + "__", first + "_QQ", first + "_ ", first + "_\n", first + "_\x00", first + "_\xff", first + "_" + first + "_", called + "_Q", called + "__", called + "_ ", first + "__" + called, first + "_" + strings.ToLower(called), first + "_" + strings.Repeat("Q", 1000)} {
				for _, text := range []string{"", "1", "=", called + "=1"} {
					wantWrong(t, s, []string{name + "=" + text}, api.ErrEnvName, 0)
					wantWrong(t, s, []string{called + "=1", "A0=1", name + "=" + text, called + "=2"}, api.ErrEnvName, 2)
				}
			}
			for _, behind := range []string{"Q", "0", " ", ".", "-", "\x00", "\xff", "q"} {
				wantGiven(t, s, []string{first + behind + "_X=1", first + behind + "=1"})
			}
		}
	}
}

func TestAFirstPartAloneAndWithNothingBehind(t *testing.T) {
	s := key.Standard()
	for _, first := range words("NET LOG STORE BOOT") {
		wantGiven(t, s, []string{first + "=1", first + "X=1", first + "X_Y=1", first + "=_"})
		wantWrong(t, s, []string{first + "_=1"}, api.ErrEnvName, 0)
		wantWrong(t, s, []string{first + "=1", first + "_X=1"}, api.ErrEnvName, 1)
		wantWrong(t, s, []string{first + "_"}, api.ErrEnvForm, 0)
	}
}

func TestASettingWhoseNameIsOnePart(t *testing.T) {
	s := textsOf("debug")
	wantGiven(t, s, words("DEBUG=1 DEBUG= DEBUG==_"), given("debug", "1", 0), given("debug", "", 1), given("debug", "=_", 2))
	wantGiven(t, s, words("DEBUGS=1 DEBU=1 DEBU_G=1 XDEBUG=1 X_DEBUG=1 debug=1"))
	for _, name := range words("DEBUG_ DEBUG_X DEBUG__ DEBUG_DEBUG DEBUG_X_Y DEBUG_x") {
		wantWrong(t, s, []string{"DEBUG=1", name + "=1"}, api.ErrEnvName, 1)
	}
	s = textsOf("debug", "debug.x")
	wantGiven(t, s, words("DEBUG_X=1 DEBUG=2"), given("debug.x", "1", 0), given("debug", "2", 1))
	wantWrong(t, s, words("DEBUG_X=1 DEBUG_X_Y=1"), api.ErrEnvName, 1)
	s = textsOf("debug.x.y")
	wantGiven(t, s, words("DEBUG=2 DEBUG_X_Y=1"), given("debug.x.y", "1", 1))
	wantWrong(t, s, words("DEBUG=2 DEBUG_X=1"), api.ErrEnvName, 1)
}

func TestAFirstPartThatIsTheBeginningOfAnotherOne(t *testing.T) {
	s := textsOf("net.x", "nets.x", "netsy")
	wantGiven(t, s, words("NETS_X=1 NET_X=2 NETSY=3 NETSYZ=4 NETSYZ_X=5 NE_X=6 NET=7 NETS=8"), given("nets.x", "1", 0), given("net.x", "2", 1), given("netsy", "3", 2))
	for _, name := range words("NET_S NETS_ NET_Y NETS_Y NETSY_ NETSY_X NET_S_X NET_SY") {
		wantWrong(t, s, []string{name + "=1"}, api.ErrEnvName, 0)
	}
	wantGiven(t, textsOf("nets.x"), words("NET_X=1 NET_=1 NET_S_X=1 NETSY_X=1"))
	wantGiven(t, textsOf("net.x"), words("NETS_X=1 NETS_=1 NETS_Y=1 NETSY_X=1"))
	wantGiven(t, textsOf("a", "a.b", "ab"), words("AB=1 A_B=2 A=3 ABB=4"), given("ab", "1", 0), given("a.b", "2", 1), given("a", "3", 2))
}

// A name that begins with a whole other one is another one, also of more parts.
func TestNamesThatAreTheBeginningsOfOtherOnes(t *testing.T) {
	s := textsOf("d", "d.e", "d.e.b", "d.eb", "de.b", "deb")
	wantGiven(t, s, words("D=1 D_E=2 D_E_B=3 D_EB=4 DE_B=5 DEB=6"), given("d", "1", 0), given("d.e", "2", 1), given("d.e.b", "3", 2), given("d.eb", "4", 3), given("de.b", "5", 4), given("deb", "6", 5))
	for _, name := range words("D_E_ D_E_B_ D_EB_ DE_ DE_B_ DEB_ D_B D__E D_E__B DE_B_U") {
		wantWrong(t, s, []string{"D=1", name + "=1"}, api.ErrEnvName, 1)
	}
	wantGiven(t, s, words("E=1 E_B=1 DEBU=1 DE=1"))
}

func TestLongestNames(t *testing.T) {
	s := textsOf(strings.Repeat("a", 32), "b."+strings.Repeat("c", 30), "d.e."+strings.Repeat("f", 28))
	for i, k := range s.All() {
		called := calledByWords(k.Name)
		pairs := slices.Repeat([]string{"X=1"}, i)
		wantGiven(t, s, append(pairs, called+"=x"), given(k.Name, "x", i))
		wantWrong(t, s, append(pairs, called+"_=x"), api.ErrEnvName, i)
	}
	wantGiven(t, s, []string{strings.Repeat("A", 33) + "=x", strings.Repeat("A", 31) + "=x", strings.Repeat("A", 31) + "_=x", strings.Repeat("A", 33) + "_X=x"})
	wantWrong(t, s, []string{"B_" + strings.Repeat("C", 31) + "=x"}, api.ErrEnvName, 0)
}

// E2: names with any byte

func TestNamesWithEachByte(t *testing.T) {
	s, short := key.Standard(), shortSet()
	for b := range 256 {
		if b == '=' {
			continue
		}
		letter := oneByte(b)
		wantName(t, s, letter+"NET_PORT", "")
		wantName(t, s, letter+"_PORT", "")
		switch b {
		case '_':
			wantName(t, s, "NET"+letter+"PORT", "net.port")
		default:
			wantName(t, s, "NET"+letter+"PORT", "")
			wantName(t, s, "NET"+letter+"_PORT", "")
		}
		wantWrong(t, s, []string{"NET_" + letter + "=1"}, api.ErrEnvName, 0)
		wantWrong(t, s, []string{"NET_PORT" + letter + "=1"}, api.ErrEnvName, 0)
		wantWrong(t, s, []string{"NET_" + letter + "PORT=1"}, api.ErrEnvName, 0)
		for other := range 256 {
			for _, name := range []string{letter + oneByte(other), "A" + letter + oneByte(other), "B" + letter + oneByte(other), "AA" + letter + oneByte(other), "B_" + letter + "_" + oneByte(other)} {
				checkParse(t, short, []string{name + "=1"})
			}
		}
	}
}

// wantName: a pair of that name gives that setting, or is passed over.
func wantName(t *testing.T, s *key.Set, called, setting string) {
	t.Helper()
	var want []api.Given
	if setting != "" {
		want = append(want, given(setting, "1", 1))
	}
	wantGiven(t, s, []string{"A=1", called + "=1"}, want...)
}

// E2: order, and places

func TestPairsThatAreGivenTwice(t *testing.T) {
	s := key.Standard()
	wantGiven(t, s, words("NET_PORT=1 NET_PORT=2 A=1 NET_PORT=1 NET_PORT=1"), given("net.port", "1", 0), given("net.port", "2", 1), given("net.port", "1", 3), given("net.port", "1", 4))
	wantGiven(t, s, words("BOOT_DRY= NET_URL=x BOOT_DRY= NET_URL=x"), given("boot.dry", "", 0), given("net.url", "x", 1), given("boot.dry", "", 2), given("net.url", "x", 3))
	wantWrong(t, s, words("NET_PORT=1 NET_X=1 NET_X=1"), api.ErrEnvName, 1)
}

func TestOrderAndPlaces(t *testing.T) {
	s := key.Standard()
	wantGiven(t, s, words("STORE_DIR=/x NET_PORT=1 BOOT_DRY=on A=1 LOG_FILE=f"), given("store.dir", "/x", 0), given("net.port", "1", 1), given("boot.dry", "on", 2), given("log.file", "f", 4))
	for count := range 40 {
		pairs := slices.Repeat([]string{"A=1"}, count)
		wantGiven(t, s, append(pairs, "NET_PORT=1", "A=1"), given("net.port", "1", count))
		for _, k := range s.All() {
			wantGiven(t, s, append(pairs, calledByWords(k.Name)+"="+k.Name), given(k.Name, k.Name, count))
		}
		for pair, e := range wrongPairs {
			wantWrong(t, s, append(pairs, pair, "A=1"), e, count)
		}
	}
}

// wrongPairs are refused by the standard set.
var wrongPairs = map[string]api.Errno{"": api.ErrEnvForm, "B": api.ErrEnvForm, "=": api.ErrEnvForm, "=1": api.ErrEnvForm, "NET_PORT": api.ErrEnvForm, "NET_X": api.ErrEnvForm, "NET_=": api.ErrEnvName, "NET_X=1": api.ErrEnvName, "LOG_LEVEL_X=": api.ErrEnvName, "BOOT__DRY==": api.ErrEnvName}

// Of several wrong pairs the first one is told, whatever its error.
func TestTheFirstWrongPairIsTold(t *testing.T) {
	s := key.Standard()
	for one, e := range wrongPairs {
		for other := range wrongPairs {
			wantWrong(t, s, []string{one, other}, e, 0)
			wantWrong(t, s, []string{"A=1", "NET_PORT=1", one, "NET_PORT=2", other, one}, e, 2)
		}
	}
}

// Beside an error nothing is told, however many pairs were right.
func TestNothingIsToldBesideAnError(t *testing.T) {
	s := key.Standard()
	for count := range 40 {
		for pair, e := range wrongPairs {
			if told, got, at := env.Parse(s, append(slices.Repeat([]string{"NET_PORT=1"}, count), pair)); len(told) != 0 || got != e || at != count {
				t.Errorf("Parse of %q behind %d: %+v, %d, %d", pair, count, told, got, at)
			}
		}
	}
}

// E2, R1: many pairs, and long ones

func TestManyAndLongPairs(t *testing.T) {
	s := key.Standard()
	many, e, _ := env.Parse(s, slices.Repeat([]string{"NET_PORT=1", "A=1", "BOOT_DRY="}, 1<<17))
	if len(many) != 1<<18 || e != api.OK || many[1<<18-2] != given("net.port", "1", 3<<17-3) || many[1<<18-1] != given("boot.dry", "", 3<<17-1) {
		t.Errorf("many pairs: %d, %d", len(many), e)
	}
	if told, e, at := env.Parse(s, append(slices.Repeat([]string{"NET_PORT=1"}, 1<<17), "B")); len(told) != 0 || e != api.ErrEnvForm || at != 1<<17 {
		t.Errorf("a wrong pair behind many: %d, %d, %d", len(told), e, at)
	}
	long := strings.Repeat("NET_X", 1<<20)
	wantGiven(t, s, []string{"NET_PORT=" + long, "A=" + long, "A" + long + "=1"}, given("net.port", long, 0))
	for pair, want := range map[string]api.Errno{long: api.ErrEnvForm, "=" + long: api.ErrEnvForm, long + "=1": api.ErrEnvName, "NET_PORT" + long + "=": api.ErrEnvName, "NET_" + long + "=": api.ErrEnvName} {
		if told, e, at := env.Parse(s, []string{"A=1", pair}); len(told) != 0 || e != want || at != 1 {
			t.Errorf("Parse of %.20q..: %d, %d", pair, e, at)
		}
	}
}

// E2: all short pairs over chosen letters

func TestAllShortPairs(t *testing.T) {
	s := shortSet()
	counts := map[api.Errno]int{}
	eachText("AB_=1a", 7, func(pair string) {
		_, e, _ := checkParse(t, s, []string{pair})
		counts[e]++
	})
	if counts[api.OK] < 10_000 || counts[api.ErrEnvForm] < 10_000 || counts[api.ErrEnvName] < 10_000 {
		t.Errorf("how often each was answered: %v", counts)
	}
}

func TestAllPairsAndTriplesOfShortPairs(t *testing.T) {
	s := textsOf("a", "b.a")
	var long []string
	eachText("AB_=", 4, func(pair string) { long = append(long, pair) })
	few := append(words("A= B= A=A A_= B_A= B_= BA= A A_A B_A=_"), "", "=")
	for _, one := range long {
		for _, two := range long {
			checkParse(t, s, []string{one, two})
		}
	}
	for _, one := range few {
		for _, two := range few {
			for _, three := range few {
				checkParse(t, s, []string{one, two, three})
			}
		}
	}
}

func FuzzPairs(f *testing.F) {
	for _, pair := range []string{"", "A=1", "NET_PORT=1", "NET_X=1", "=1", "D_E_B=a=b", "net.port"} {
		f.Add(pair)
	}
	f.Fuzz(func(t *testing.T, pair string) {
		checkName(t, pair)
		for _, s := range sets() {
			checkParse(t, s, []string{pair})
			checkParse(t, s, []string{"A0=1", pair, "NET_PORT=" + pair, pair})
			checkParse(t, s, []string{"NET_" + pair, "D" + pair})
		}
	})
}
