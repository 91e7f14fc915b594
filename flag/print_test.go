package flag_test

import (
	"slices"
	"strings"
	"testing"

	"tinderbox/api"
	"tinderbox/flag"
	"tinderbox/key"
)

// F2

// wantPrinted: settings are printed as just these arguments.
func wantPrinted(t *testing.T, s *key.Set, want []string, l ...api.Given) {
	t.Helper()
	if args, e := checkPrint(t, s, l); !slices.Equal(args, want) || e != api.OK {
		t.Errorf("Print of %+v: %q, %d; not %q", l, args, e, want)
	}
}

// wantRefused: settings are not printed.
func wantRefused(t *testing.T, s *key.Set, l ...api.Given) {
	t.Helper()
	if args, e := checkPrint(t, s, l); len(args) != 0 || e != api.ErrArg {
		t.Errorf("Print of %+v: %q, %d", l, args, e)
	}
}

func TestPrintWithoutASet(t *testing.T) {
	for _, l := range [][]api.Given{nil, {}, {given("net.port", "1", 0)}, {given("", "", 0)}} {
		if args, e := flag.Print(nil, l); len(args) != 0 || e != api.ErrArg {
			t.Errorf("Print of %+v without a set: %q, %d", l, args, e)
		}
	}
}

func TestPrintOfNoSetting(t *testing.T) {
	for _, s := range []*key.Set{key.New(), new(key.Set), key.Standard(), ownSet()} {
		wantPrinted(t, s, nil)
		if args, e := flag.Print(s, []api.Given{}); len(args) != 0 || e != api.OK {
			t.Errorf("Print of an empty list: %q, %d", args, e)
		}
	}
}

func TestPrintOfEachSetting(t *testing.T) {
	for _, s := range []*key.Set{key.Standard(), ownSet()} {
		var l []api.Given
		var want []string
		for i, k := range s.All() {
			for _, text := range append(slices.Clone(manyTexts), "a\nb", "\n=", "a b", " x ", "\"x\"") {
				wantPrinted(t, s, []string{"--" + k.Name + "=" + text}, given(k.Name, text, i))
				l, want = append(l, given(k.Name, text, -i)), append(want, "--"+k.Name+"="+text)
			}
		}
		wantPrinted(t, s, want, l...)
		slices.Reverse(l)
		slices.Reverse(want)
		wantPrinted(t, s, want, l...)
	}
}

func TestPrintOfNamesThatAreNone(t *testing.T) {
	s := key.Standard()
	for _, name := range []string{"", "x", "p", "n", "-p", "--net.port", "net.port=", "net.port=1", "net", "net.", "net.por", "net.portx", "Net.Port", "net.port ", " net.port", "no-boot.dry", "help", "h", "-", "--", "=", "net.port\n", "net.port\x00", "\xff", strings.Repeat("a", 33), strings.Repeat("a", 1<<20)} {
		for _, text := range []string{"", "1", "a=b"} {
			wantRefused(t, s, given(name, text, 0))
			wantRefused(t, s, given("net.port", "1", 0), given(name, text, 1))
			wantRefused(t, s, given(name, text, 0), given("net.port", "1", 1))
			wantRefused(t, s, given("net.port", "1", 0), given(name, text, 1), given("boot.dry", "", 2))
		}
	}
	for _, k := range s.All() {
		wantRefused(t, key.New(), given(k.Name, k.Default, 0))
		wantRefused(t, new(key.Set), given(k.Name, k.Default, 0))
		wantRefused(t, ownSet(), given("bool", "yes", 0), given(k.Name, k.Default, 0))
	}
}

// Settings stand in the order of the list, also those that are there again; At is not looked at.
func TestPrintKeepsTheOrder(t *testing.T) {
	for _, at := range []int{0, 1, -1, 7, 1 << 62, -1 << 63, 1<<63 - 1} {
		wantPrinted(t, key.Standard(), words("--net.port=x --boot.dry= --net.port=a=b --net.port=x --boot.dry=off"),
			given("net.port", "x", at), given("boot.dry", "", at), given("net.port", "a=b", -at), given("net.port", "x", 0), given("boot.dry", "off", 3))
	}
}

// What kind of value a text is is not asked.
func TestPrintDoesNotLookIntoTexts(t *testing.T) {
	wantPrinted(t, key.Standard(), []string{"--net.port=many", "--boot.dry=\n", "--log.keep=-1", "--net.peers=,,"}, given("net.port", "many", 0), given("boot.dry", "\n", 0), given("log.keep", "-1", 0), given("net.peers", ",,", 0))
}
