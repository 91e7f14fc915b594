package env_test

import (
	"strings"
	"testing"

	"tinderbox/api"
	"tinderbox/env"
	"tinderbox/key"
)

// E1

// wantCalled: a name is called so.
func wantCalled(t *testing.T, name, want string) {
	t.Helper()
	if called, e := checkName(t, name); called != want || e != api.OK {
		t.Errorf("Name of %q: %q, %d; not %q", name, called, e, want)
	}
}

// wantNoName: a text is no name.
func wantNoName(t *testing.T, s string) {
	t.Helper()
	if called, e := checkName(t, s); called != "" || e != api.ErrArg {
		t.Errorf("Name of %.300q: %q, %d", s, called, e)
	}
}

func TestNameExamples(t *testing.T) {
	wantCalled(t, "net.port", "NET_PORT")
	wantCalled(t, "a1.b.c2", "A1_B_C2")
	wantNoName(t, "Net")
	wantNoName(t, "")
}

func TestNameOfNames(t *testing.T) {
	for name, want := range map[string]string{
		"a": "A", "z": "Z", "debug": "DEBUG", "a0": "A0", "z9": "Z9", "a1b2": "A1B2", "abcdefghijklmnopqrstuvwxyz": "ABCDEFGHIJKLMNOPQRSTUVWXYZ", "x0123456789": "X0123456789",
		"a.b": "A_B", "net.x1": "NET_X1", "n1.x": "N1_X", "i.l": "I_L", "a.b.c": "A_B_C", "a0.b0.c0": "A0_B0_C0", "log.file.name": "LOG_FILE_NAME",
	} {
		wantCalled(t, name, want)
	}
}

func TestNameOfEachStandardSetting(t *testing.T) {
	want := words("BOOT_DRY BOOT_LIMIT BOOT_SERVICES BOOT_WORKERS LOG_FILE LOG_KEEP LOG_LEVEL NET_HOST NET_PEERS NET_PORT NET_TIMEOUT NET_URL STORE_BLOCKS STORE_CACHE STORE_DIR STORE_PAGE")
	all := key.Standard().All()
	if len(all) != len(want) {
		t.Fatalf("there are %d", len(all))
	}
	for i, k := range all {
		wantCalled(t, k.Name, want[i])
	}
}

func TestNameOf32BytesAndOfMore(t *testing.T) {
	for ahead, called := range map[string]string{"": "", "a.": "A_", "a.b.": "A_B_", "a1.b2.": "A1_B2_"} {
		room := 32 - len(ahead)
		for _, length := range []int{1, 2, room - 1, room} {
			wantCalled(t, ahead+strings.Repeat("x", length), called+strings.Repeat("X", length))
		}
		for _, length := range []int{room + 1, room + 2, 64, 255, 256, 257, 288, 1 << 16, 1 << 20} {
			wantNoName(t, ahead+strings.Repeat("x", length))
		}
	}
	wantCalled(t, "a"+strings.Repeat("0", 31), "A"+strings.Repeat("0", 31))
	wantNoName(t, "a"+strings.Repeat("0", 32))
	wantNoName(t, strings.Repeat("a.", 1<<20)+"a")
}

func TestNameOfTextsThatAreNone(t *testing.T) {
	for _, s := range []string{" ", ".", "..", "a.", ".a", "a..b", "a.b.", ".a.b", "a.b.c.", "a.b.c.d", "1", "1a", "a.1", "a.1b", "A", "aB", "a.B", "NET_PORT", "NET.PORT", "net_port", "a_", "_a", "_", "a-b", "a b", " a", "a ", "a\n", "\na", "a\x00", "a=", "a=b", "=", "a,b", "${a}", "\u00e4", "a\u00e4", "\u017f", "\u0131", "\u212a", "a.\u00e4", "\xff", "a\xff"} {
		wantNoName(t, s)
	}
}

func TestNameOfAnyTwoBytes(t *testing.T) {
	for a := range 256 {
		checkName(t, oneByte(a))
		for b := range 256 {
			two := oneByte(a) + oneByte(b)
			for _, s := range []string{two, "x" + two, "x." + two, "x" + oneByte(a) + "y" + oneByte(b)} {
				checkName(t, s)
			}
		}
	}
}

func TestNameOfAllShortTexts(t *testing.T) {
	count := 0
	eachText("az.09_A", 6, func(s string) {
		if _, e := checkName(t, s); e == api.OK {
			count++
		}
	})
	if count < 4000 {
		t.Errorf("only %d were names", count)
	}
}

// What Name tells is what Parse looks for.
func TestASettingIsGivenByWhatNameTells(t *testing.T) {
	for _, s := range sets() {
		for _, k := range s.All() {
			called, _ := env.Name(k.Name)
			wantGiven(t, s, []string{called + "=x"}, given(k.Name, "x", 0))
		}
	}
}
