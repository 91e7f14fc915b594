package derive_test

import (
	"math"
	"slices"
	"strings"
	"testing"

	"tinderbox/api"
)

// D1

// manyAdds are an Add's bounds, and numbers near and far.
var manyAdds = []int{0, 1, -1, 2, 16, 1024, -1024, 1<<31 - 1, 1 << 31, 1<<31 + 1, -1<<31 + 1, -1 << 31, -1<<31 - 1, 1 << 32, 1<<32 + 1, -1 << 32, most62, -most62, most62 + 1, math.MaxInt, math.MinInt, math.MinInt + 1}

// notNames are no names, but nearly.
var notNames = []string{"", ".", "a.", ".a", "a..b", "1a", "a.1", "A", "Boot", "boot.Limit", "a_b", "a-b", "a b", " a", "a ", "a.b.c.d", "a\n", "\xff", "a\x00", "ä", "${a}", strings.Repeat("a", 33), longName + "x", strings.Repeat("a", 300)}

var manyNames = []string{"a", "z", "a1", "a.b", "a.b.c", "a0.b1.c2", "net.port", longName, strings.Repeat("z", 32)}

// wantRight: whether rules are right.
func wantRight(t *testing.T, want bool, l ...api.Rule) {
	t.Helper()
	for _, r := range l {
		if got := checkRight(t, r); got != want {
			t.Errorf("Right of %+v: %t", r, got)
		}
	}
}

func TestRightExamples(t *testing.T) {
	wantRight(t, true, rule("boot.limit", api.OpTimes, "boot.workers", 16), rule("boot.workers", api.OpCount, "boot.services", 1), rule("store.page", api.OpShare, "store.cache", 1024))
	wantRight(t, false, rule("boot.limit", api.OpShare, "net.port", 0), rule("Boot", api.OpSum, "net.port", 0), rule("boot.limit", api.OpSum, "", 0), api.Rule{})
}

func TestNamesOfRules(t *testing.T) {
	for _, name := range manyNames {
		for op := 1; op <= 6; op++ {
			wantRight(t, true, rule(name, op, "a", 1), rule("a", op, name, 1), rule(name, op, name, 1))
		}
	}
	for _, name := range notNames {
		for op := 1; op <= 6; op++ {
			wantRight(t, false, api.Rule{Target: name, Needs: []string{"a"}, Op: op, Add: 1}, api.Rule{Target: "a", Needs: []string{name}, Op: op, Add: 1})
		}
		// At each place of as many needs as there may be.
		for at := range 8 {
			needs := slices.Repeat([]string{"a"}, 8)
			needs[at] = name
			wantRight(t, false, api.Rule{Target: "a", Needs: needs, Op: api.OpSum})
		}
	}
	// Each byte, ahead of a name, within it and behind it.
	for b := range 256 {
		c := string([]byte{byte(b)})
		for _, name := range []string{c, c + "a", "a" + c, "a" + c + "a", "a." + c + "b"} {
			checkRight(t, api.Rule{Target: name, Needs: []string{"a"}, Op: api.OpSum})
			checkRight(t, api.Rule{Target: "a", Needs: []string{"a", name, "b"}, Op: api.OpCount})
		}
	}
}

func TestHowManyNeedsThereMayBe(t *testing.T) {
	for op := 1; op <= 6; op++ {
		for count := range 20 {
			want := count >= 1 && count <= 8
			if op == api.OpShare {
				want = count == 1
			}
			needs := manyNames[:min(count, len(manyNames))]
			if count <= len(manyNames) {
				wantRight(t, want, api.Rule{Target: "t", Needs: needs, Op: op, Add: 1})
			}
			wantRight(t, want, api.Rule{Target: "t", Needs: slices.Repeat([]string{"a.b"}, count), Op: op, Add: 1})
		}
		wantRight(t, false, api.Rule{Target: "t", Op: op, Add: 1}, api.Rule{Target: "t", Needs: []string{}, Op: op, Add: 1}, api.Rule{Target: "t", Needs: slices.Repeat([]string{"a"}, 1<<20), Op: op, Add: 1})
	}
}

// A name may stand among the needs several times.
func TestNamesThatStandSeveralTimes(t *testing.T) {
	for _, op := range []int{1, 2, 3, 4, 6} {
		wantRight(t, true, rule("t", op, "a a", 0), rule("t", op, "a b a", 0), rule("t", op, "a b a b a b a b", 0), rule("t", op, "t t t", 0))
	}
	wantRight(t, false, rule("t", api.OpShare, "a a", 1))
}

func TestOperations(t *testing.T) {
	for _, op := range []int{-1, 0, 7, 8, 256 + 1, 1<<32 + 1, math.MaxInt, math.MinInt, -1 << 32, most62} {
		wantRight(t, false, rule("t", op, "a", 1), rule("t", op, "a b", 1), rule("t", op, "a", 0))
	}
	for op := 1; op <= 6; op++ {
		wantRight(t, true, rule("t", op, "a", 1))
	}
}

func TestAdds(t *testing.T) {
	for op := -1; op <= 8; op++ {
		for _, add := range manyAdds {
			checkRight(t, rule("t", op, "a", add))
			checkRight(t, rule("t", op, "a b", add))
		}
	}
	for _, op := range []int{1, 2, 3, 4, 6} {
		wantRight(t, true, rule("t", op, "a", 1<<31), rule("t", op, "a", -1<<31), rule("t", op, "a", 0), rule("t", op, "a", -1))
		wantRight(t, false, rule("t", op, "a", 1<<31+1), rule("t", op, "a", -1<<31-1))
	}
	wantRight(t, true, rule("t", api.OpShare, "a", 1), rule("t", api.OpShare, "a", 1<<31))
	wantRight(t, false, rule("t", api.OpShare, "a", 0), rule("t", api.OpShare, "a", -1), rule("t", api.OpShare, "a", -1<<31), rule("t", api.OpShare, "a", 1<<31+1))
}

// wrongRule is one that may be wrong in several ways at once, or right.
func (x *numbers) wrongRule() api.Rule {
	name := func() string {
		if x.next()%12 == 0 {
			return pick(x, notNames)
		}
		return pick(x, manyNames)
	}
	r := api.Rule{Target: name(), Op: x.next()%8 - x.next()%8/7, Add: pick(x, manyAdds)}
	for range x.next() % (1 + x.next()%11) {
		r.Needs = append(r.Needs, name())
	}
	return r
}

func TestRandomRules(t *testing.T) {
	x := numbers(1)
	right := 0
	for range 50000 {
		if checkRight(t, x.wrongRule()) {
			right++
		}
	}
	if right < 2000 || right > 48000 {
		t.Errorf("%d were right", right)
	}
}
