package disk_test

import (
	"math"
	"testing"

	"tinderbox/api"
	"tinderbox/disk"
)

// K3

func TestArmOfWrongNumbers(t *testing.T) {
	d, m := fresh(t, 8)
	wrong := []int{0, -1, -2, -1 << 31, -1 << 32, math.MinInt, math.MinInt + 1}
	for _, n := range wrong {
		wantErrno(t, api.ErrArg, m.wantArm(t, d, n))
		wantErrno(t, api.OK, m.wantSync(t, d))
	}
	m.check(t, d)
	m.wantArm(t, d, 2)
	// What was told ahead of a wrong number holds.
	for _, n := range wrong {
		wantErrno(t, api.ErrArg, m.wantArm(t, d, n))
	}
	wantErrno(t, api.OK, m.wantSync(t, d))
	wantErrno(t, api.ErrDead, m.wantSync(t, d))
	for _, n := range wrong {
		wantErrno(t, api.ErrArg, m.wantArm(t, d, n))
	}
	wantErrno(t, api.ErrDead, m.wantArm(t, d, 1), m.wantArm(t, d, math.MaxInt))
	m.check(t, d)
}

// dyingIn is a disk that dies in the n-th act from now on, with the acts ahead of that one done; by turns Writes and Syncs.
func dyingIn(t *testing.T, n int) (*disk.Disk, *model) {
	t.Helper()
	d, m := fresh(t, 8)
	m.wantWrite(t, d, 5, full("o"))
	m.wantSync(t, d)
	wantErrno(t, api.OK, m.wantArm(t, d, n))
	for act := 1; act < n; act++ {
		if act%3 == 0 {
			wantErrno(t, api.OK, m.wantSync(t, d))
		} else {
			wantErrno(t, api.OK, m.wantWrite(t, d, act%8, striped(act)))
		}
		if d.Dead() {
			t.Fatalf("it died in act %d, not in %d", act, n)
		}
	}
	m.check(t, d)
	return d, m
}

func TestDiesInAWrite(t *testing.T) {
	for n := 1; n <= 40; n++ {
		for block := range 8 {
			d, m := dyingIn(t, n)
			wantErrno(t, api.ErrDead, m.wantWrite(t, d, block, full("d")))
			if got := d.Pending(); !d.Dead() || got[len(got)-1] != block || d.Image()[block] != full("d") {
				t.Errorf("the Write in which it died is lost: %v", got)
			}
			wantActs(t, d, 2+n)
			m.check(t, d)
			wantDead(t, d, m)
		}
	}
}

func TestDiesInASync(t *testing.T) {
	for n := 1; n <= 40; n++ {
		d, m := dyingIn(t, n)
		before, image := d.Pending(), letters(d.Image())
		wantErrno(t, api.ErrDead, m.wantSync(t, d))
		wantPending(t, d, before...)
		if !d.Dead() || letters(d.Image()) != image {
			t.Errorf("the image is %q, which was %q", letters(d.Image()), image)
		}
		wantActs(t, d, 2+n)
		m.check(t, d)
		wantDead(t, d, m)
		m.wantCrash(t, d)
		m.check(t, d)
	}
}

// wantDead: a disk that is dead answers so, and nothing changes it.
func wantDead(t *testing.T, d *disk.Disk, m *model) {
	t.Helper()
	for range 2 {
		wantErrno(t, api.ErrDead, m.wantSync(t, d), m.wantArm(t, d, 1), m.wantArm(t, d, 9))
		wantErrno(t, api.ErrArg, m.wantArm(t, d, 0), m.wantArm(t, d, -1))
		wantErrno(t, api.ErrArg, m.wantWrite(t, d, -1, full("x")), m.wantWrite(t, d, d.Size(), full("x")), m.wantWrite(t, d, 0, "x"))
		for n := range d.Size() {
			wantErrno(t, api.ErrDead, m.wantWrite(t, d, n, full("x")))
			m.wantRead(t, d, n)
		}
		m.check(t, d)
	}
}

// Refused calls and what is asked are no acts: they bring no death nearer.
func TestOnlyActsBringTheDeathNearer(t *testing.T) {
	d, m := fresh(t, 8)
	m.wantArm(t, d, 3)
	idle := func() {
		m.wantWrite(t, d, 8, full("x"))
		m.wantWrite(t, d, -1, full("x"))
		m.wantWrite(t, d, 0, "x")
		m.wantArm(t, d, 0)
		m.wantCrash(t, d, 7)
		m.check(t, d)
	}
	idle()
	wantErrno(t, api.OK, m.wantWrite(t, d, 0, full("a")))
	idle()
	wantErrno(t, api.OK, m.wantSync(t, d))
	idle()
	wantErrno(t, api.ErrDead, m.wantWrite(t, d, 1, full("b")))
	idle()
	wantActs(t, d, 3)
}

// What is told again takes the place of what was told, sooner or later, and is counted from then on.
func TestArmAgain(t *testing.T) {
	for first := 1; first <= 6; first++ {
		for done := range first {
			for second := 1; second <= 6; second++ {
				d, m := fresh(t, 8)
				m.wantArm(t, d, first)
				for n := range done {
					wantErrno(t, api.OK, m.wantWrite(t, d, n, full("f")))
				}
				wantErrno(t, api.OK, m.wantArm(t, d, second))
				for n := 1; n < second; n++ {
					wantErrno(t, api.OK, m.wantWrite(t, d, n, full("s")))
				}
				m.check(t, d)
				wantErrno(t, api.ErrDead, m.wantSync(t, d))
				m.check(t, d)
				wantActs(t, d, done+second)
			}
		}
	}
}

// Great numbers hold also behind many acts.
func TestArmOfGreatNumbers(t *testing.T) {
	for _, n := range []int{math.MaxInt, math.MaxInt - 1, 1<<62 + 1, 1 << 32, 1<<32 + 1, 1 << 31} {
		d, m := fresh(t, 8)
		for range 10 {
			m.wantSync(t, d)
		}
		wantErrno(t, api.OK, m.wantArm(t, d, n))
		for block := range 8 {
			wantErrno(t, api.OK, m.wantWrite(t, d, block, full("a")), m.wantSync(t, d), m.wantArm(t, d, n))
		}
		m.check(t, d)
		m.wantArm(t, d, 1)
		wantErrno(t, api.ErrDead, m.wantWrite(t, d, 0, full("d")))
		m.check(t, d)
	}
	d, m := fresh(t, 8)
	m.wantArm(t, d, 5000)
	for range 4999 {
		if e := d.Sync(); e != api.OK {
			t.Fatalf("Sync: %d", e)
		}
	}
	wantActs(t, d, 4999)
	wantErrno(t, api.ErrDead, d.Sync())
	wantErrno(t, api.OK, d.Crash(nil))
	wantActs(t, d, 5000)
}

// It dies once: behind a Crash it lives until it is armed again.
func TestLivesBehindACrash(t *testing.T) {
	d, m := fresh(t, 8)
	for n := 1; n <= 5; n++ {
		m.wantArm(t, d, n)
		for range n - 1 {
			wantErrno(t, api.OK, m.wantSync(t, d))
		}
		wantErrno(t, api.ErrDead, m.wantWrite(t, d, n, full("d")))
		wantErrno(t, api.OK, m.wantCrash(t, d, n))
		for range 10 {
			wantErrno(t, api.OK, m.wantSync(t, d))
		}
		m.check(t, d)
	}
	wantReads(t, d, "0ddddd00")
}

// A disk of the most blocks dies as any other one.
func TestGreatestDiskDies(t *testing.T) {
	d, m := fresh(t, 4096)
	m.wantArm(t, d, 4097)
	for n := range 4096 {
		if e := d.Write(n, striped(n)); e != api.OK {
			t.Fatalf("Write of %d: %d", n, e)
		}
	}
	wantErrno(t, api.ErrDead, d.Sync())
	if len(d.Pending()) != 4096 || d.Image()[4095] != striped(4095) {
		t.Errorf("%d are pending", len(d.Pending()))
	}
	wantErrno(t, api.OK, d.Crash([]int{4095, 2}))
	for n := range m.begin {
		want := full("\x00")
		if n == 4095 || n == 2 {
			want = striped(n)
		}
		if s, e := d.Read(n); s != want || e != api.OK {
			t.Errorf("Read of %d: %.3q, %d", n, s, e)
		}
	}
	wantActs(t, d, 4097)
}
