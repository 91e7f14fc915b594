package codec_test

import (
	"math"
	"strings"
	"testing"

	"tinderbox/api"
	"tinderbox/codec"
)

// C5, P7: what was laid down is taken up.

func checkTakenUp(t *testing.T, calls []call) {
	t.Helper()
	s, e := onWriter(math.MaxInt, calls...)
	if e != api.OK {
		t.Fatalf("%v: %d", calls, e)
	}
	r := codec.NewReader(s)
	for _, c := range calls {
		if got := c.takenBy(r); got != c {
			t.Fatalf("%v: %s for %s", calls, got, c)
		}
	}
	if r.Left() != 0 || r.Done() != api.OK {
		t.Errorf("%v: %d left, %d", calls, r.Left(), r.Done())
	}
}

func TestWhatWasLaidDownIsTakenUp(t *testing.T) {
	checkTakenUp(t, nil)
	for _, n := range edges() {
		checkTakenUp(t, []call{num(n)})
		checkTakenUp(t, []call{text("a"), num(n), num(n), text("")})
	}
	for _, length := range []int{0, 1, 127, 128, 16383, 16384, 65535} {
		checkTakenUp(t, []call{text(strings.Repeat("\x80", length)), num(length)})
	}
	x := numbers(6)
	for range 500 {
		checkTakenUp(t, x.calls(x.next()%30))
	}
}

// C5, P7: what was taken up is laid down.

// takeAll takes s up by the kinds of calls that kinds tells bit by bit, until nothing is left, or something is wrong.
func takeAll(s string, kinds int) ([]call, api.Errno) {
	r := codec.NewReader(s)
	var calls []call
	for r.Left() > 0 {
		kind := call{isText: kinds>>(len(calls)%30)&1 == 1}
		calls = append(calls, kind.takenBy(r))
	}
	return calls, r.Done()
}

func checkLaidDown(t *testing.T, s string, kinds int) bool {
	t.Helper()
	calls, e := takeAll(s, kinds)
	if e != api.OK {
		return false
	}
	if got, e := onWriter(len(s), calls...); got != s || e != api.OK {
		t.Errorf("%x was taken up by %v, which lay down %x, %d", first(s), calls, first(got), e)
	}
	return true
}

func TestWhatWasTakenUpIsLaidDown(t *testing.T) {
	count := 0
	eachText("\x00\x01\x02\x7f\x80\x81\xff", 5, func(s string) {
		for kinds := range 32 {
			if checkLaidDown(t, s, kinds) {
				count++
			}
		}
	})
	x := numbers(7)
	for range 20000 {
		s := []byte(x.text(x.next() % 40))
		for i := range s {
			// Small bytes are likelier to be rows, and lengths of what is there.
			if x.next()%4 > 0 {
				s[i] &= 7
			}
		}
		if checkLaidDown(t, string(s), x.next()) {
			count++
		}
	}
	if count < 10000 {
		t.Errorf("only %d were taken up to the end", count)
	}
}

// No two rows of calls of the same kinds lay down the same bytes, and no bytes begin with others of the same kinds.
func TestNoNumbersRowBeginsWithAnothers(t *testing.T) {
	seen := map[string]int{}
	for _, n := range edges() {
		s, _ := onWriter(9, num(n))
		for length := 1; length <= len(s); length++ {
			if other, ok := seen[s[:length]]; ok && other != n {
				t.Errorf("the row of %d begins with the row of %d", n, other)
			}
		}
		seen[s] = n
	}
}
