package disk_test

import (
	"math"
	"slices"
	"strings"
	"testing"

	"tinderbox/api"
	"tinderbox/disk"
)

// The chapter's examples

func TestExamples(t *testing.T) {
	a, b := strings.Repeat("a", api.BlockSize), strings.Repeat("b", api.BlockSize)
	d, e := disk.New(8)
	wantErrno(t, api.OK, e, d.Write(0, a), d.Write(3, b), d.Write(0, b))
	wantPending(t, d, 3, 0)
	wantReads(t, d, "b00b0000")
	wantActs(t, d, 3)
	wantErrno(t, api.OK, d.Sync())
	wantPending(t, d)
	wantErrno(t, api.OK, d.Write(1, a), d.Crash(nil))
	wantReads(t, d, "b00b0000")
	wantErrno(t, api.ErrArg, d.Crash([]int{1}))

	wantErrno(t, api.OK, d.Arm(2), d.Write(0, a))
	wantErrno(t, api.ErrDead, d.Write(1, a))
	_, e = d.Read(0)
	wantErrno(t, api.ErrDead, e, d.Arm(1), d.Sync())
	if !d.Dead() {
		t.Error("it lives")
	}
	wantActs(t, d, 7)
	wantPending(t, d, 0, 1)
	if image := d.Image(); image[0] != a || image[1] != a {
		t.Errorf("the image is %q", letters(image))
	}
	wantErrno(t, api.OK, d.Crash([]int{1}))
	wantReads(t, d, "ba0b0000")

	wantErrno(t, api.OK, d.Arm(1))
	wantErrno(t, api.ErrDead, d.Sync())
	wantErrno(t, api.OK, d.Crash(nil))
	wantReads(t, d, "ba0b0000")
	_, few := disk.New(7)
	_, many := disk.New(4097)
	_, below := d.Read(-1)
	_, seven := disk.Load(d.Image()[:7])
	wantErrno(t, api.ErrArg, few, many, d.Write(8, a), d.Write(0, ""), below, d.Arm(0), seven)
	wantErrno(t, api.OK, d.Write(1, a))
	wantPending(t, d, 1)
	wantReads(t, d, "ba0b0000")
}

// K2, K5: what is no block, no text of one

// outside are numbers that are no block's.
func outside(blocks int) []int {
	return []int{-1, blocks, blocks + 1, -2, -blocks, 4096, 1 << 31, 1 << 32, -1 << 32, math.MinInt, math.MaxInt}
}

func TestNumbersOfNoBlock(t *testing.T) {
	for _, blocks := range []int{8, 9, 63, 64, 65, 4096} {
		d, m := fresh(t, blocks)
		m.wantWrite(t, d, blocks-1, full("l"))
		for _, n := range outside(blocks) {
			wantErrno(t, api.ErrArg, m.wantWrite(t, d, n, full("w")), m.wantWrite(t, d, n, ""))
			m.wantRead(t, d, n)
		}
		m.check(t, d)
		m.wantArm(t, d, 1)
		m.wantSync(t, d)
		for _, n := range outside(blocks) {
			wantErrno(t, api.ErrArg, m.wantWrite(t, d, n, full("w")), m.wantWrite(t, d, n, ""))
			m.wantRead(t, d, n)
		}
		m.check(t, d)
	}
}

func TestFirstAndLastBlock(t *testing.T) {
	for _, blocks := range []int{8, 9, 63, 64, 65, 4096} {
		d, m := fresh(t, blocks)
		for _, n := range []int{0, blocks - 1} {
			wantErrno(t, api.OK, m.wantWrite(t, d, n, striped(n)))
			m.check(t, d)
			wantErrno(t, api.OK, m.wantSync(t, d))
			m.check(t, d)
		}
		wantActs(t, d, 4)
	}
}

func TestWriteOfTextsThatAreNoBlocks(t *testing.T) {
	d, m := fresh(t, 8)
	m.wantWrite(t, d, 1, full("a"))
	for length := range 200 {
		s := strings.Repeat("s", length)
		want := api.ErrArg
		if length == 64 {
			want = api.OK
		}
		wantErrno(t, want, m.wantWrite(t, d, 1, s), m.wantWrite(t, d, 7, s))
		m.check(t, d)
	}
	wantErrno(t, api.ErrArg, m.wantWrite(t, d, 0, strings.Repeat("s", 1<<20)), m.wantWrite(t, d, 0, strings.Repeat("ä", 64)))
	m.wantArm(t, d, 1)
	m.wantSync(t, d)
	for length := range 200 {
		want := api.ErrArg
		if length == 64 {
			want = api.ErrDead
		}
		wantErrno(t, want, m.wantWrite(t, d, 1, strings.Repeat("s", length)))
	}
	m.check(t, d)
}

// Blocks have any bytes, each in its place.
func TestWriteOfAllBytes(t *testing.T) {
	d, m := fresh(t, 8)
	for first := range 256 {
		for n, s := range []string{striped(first), full(string([]byte{byte(first)}))} {
			m.wantWrite(t, d, 3*n, s)
			if got, e := d.Read(3 * n); got != s || e != api.OK {
				t.Errorf("Read of %d: %q, %d; not %q", 3*n, got, e, s)
			}
		}
		if first%64 == 0 {
			m.wantSync(t, d)
			m.check(t, d)
		}
	}
	m.check(t, d)
}

// K2, K5: what is pending

// A block that is written again is pending once, behind all others.
func TestOneBlockTwiceAndThenAnother(t *testing.T) {
	d, m := fresh(t, 8)
	for _, step := range []struct {
		n    int
		s    string
		want []int
	}{
		{5, "a", []int{5}},
		{5, "b", []int{5}},
		{2, "c", []int{5, 2}},
		{2, "c", []int{5, 2}},
		{5, "d", []int{2, 5}},
		{7, "e", []int{2, 5, 7}},
		{5, "f", []int{2, 7, 5}},
		{2, "g", []int{7, 5, 2}},
		{0, "h", []int{7, 5, 2, 0}},
		{7, "i", []int{5, 2, 0, 7}},
		{7, "i", []int{5, 2, 0, 7}},
	} {
		wantErrno(t, api.OK, m.wantWrite(t, d, step.n, full(step.s)))
		wantPending(t, d, step.want...)
		m.check(t, d)
	}
	wantActs(t, d, 11)
	wantReads(t, d, "h0g00f0i")
}

// What stands there already is pending, too: what it is does not matter.
func TestWriteOfWhatStandsThere(t *testing.T) {
	d, m := fresh(t, 8)
	m.wantWrite(t, d, 4, full("\x00"))
	wantPending(t, d, 4)
	m.wantSync(t, d)
	m.wantWrite(t, d, 3, full("a"))
	m.wantWrite(t, d, 6, full("\x00"))
	m.wantWrite(t, d, 3, full("a"))
	wantPending(t, d, 6, 3)
	m.wantWrite(t, d, 3, full("\x00"))
	wantPending(t, d, 6, 3)
	wantActs(t, d, 6)
	m.check(t, d)
	m.wantCrash(t, d, 3)
	m.wantWrite(t, d, 6, full("\x00"))
	wantPending(t, d, 6)
	m.check(t, d)
}

// All orders in which three blocks may be written up to five times.
func TestAllOrdersOfWrites(t *testing.T) {
	blocks := []int{0, 4, 7}
	for length, count := 0, 1; length <= 5; length, count = length+1, count*3 {
		for code := range count {
			d, m := fresh(t, 8)
			for rest, left := code, length; left > 0; rest, left = rest/3, left-1 {
				m.wantWrite(t, d, blocks[rest%3], striped(left))
			}
			m.check(t, d)
		}
	}
}

func TestAllBlocksPending(t *testing.T) {
	for _, blocks := range []int{8, 100, 4096} {
		d, m := fresh(t, blocks)
		var forth []int
		for n := range blocks {
			wantErrno(t, api.OK, d.Write(n, full("a")))
			forth = append(forth, n)
		}
		wantPending(t, d, forth...)
		back := slices.Clone(forth)
		slices.Reverse(back)
		for _, n := range back {
			wantErrno(t, api.OK, d.Write(n, striped(n)))
		}
		wantPending(t, d, back...)
		wantActs(t, d, 2*blocks)
		wantErrno(t, api.OK, d.Sync())
		wantPending(t, d)
		wantErrno(t, api.OK, d.Crash(nil))
		for n := range m.begin {
			m.begin[n] = striped(n)
		}
		m.acts = 2*blocks + 1
		m.check(t, d)
	}
}

// K2: Sync

func TestSyncWithNothingPending(t *testing.T) {
	d, m := fresh(t, 8)
	for acts := range 5 {
		wantActs(t, d, acts)
		wantErrno(t, api.OK, m.wantSync(t, d))
		m.check(t, d)
	}
	m.wantWrite(t, d, 0, full("a"))
	for range 3 {
		wantErrno(t, api.OK, m.wantSync(t, d))
		m.check(t, d)
	}
	wantActs(t, d, 9)
	m.wantCrash(t, d)
	wantReads(t, d, "a0000000")
}

func TestSyncLetsAllLast(t *testing.T) {
	d, m := fresh(t, 9)
	for _, text := range []string{"abc", "def", "d", "gh"} {
		for n := range len(text) {
			m.wantWrite(t, d, 8-2*n, full(text[n:n+1]))
		}
		m.wantWrite(t, d, 1, full("x"))
		m.check(t, d)
		m.wantSync(t, d)
		m.check(t, d)
		wantPending(t, d)
		m.wantCrash(t, d)
		m.check(t, d)
	}
	wantReads(t, d, "0x00f0h0g")
	wantActs(t, d, 17)
}

// What is asked is no act.
func TestActs(t *testing.T) {
	d, m := fresh(t, 8)
	calls := []func(){
		func() { d.Size(); d.Dead(); d.Acts(); d.Pending(); d.Image() },
		func() { d.Read(0); d.Read(8); d.Write(8, full("a")); d.Write(0, "a") },
		func() { m.wantArm(t, d, 1000); m.wantArm(t, d, 0) },
		func() { m.wantCrash(t, d); m.wantCrash(t, d, 0) },
	}
	for at, call := range calls {
		call()
		wantActs(t, d, 2*at)
		m.wantWrite(t, d, at, full("a"))
		call()
		wantActs(t, d, 2*at+1)
		m.wantSync(t, d)
		m.check(t, d)
	}
}
