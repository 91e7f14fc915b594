package disk_test

import (
	"math"
	"slices"
	"testing"

	"tinderbox/api"
	"tinderbox/disk"
)

// K4

// ways are the ways in which a disk may be ahead of a Crash: they leave what is pending as it is, but for the last one, which writes block 4.
func ways() []func(*testing.T, *disk.Disk, *model) {
	return []func(*testing.T, *disk.Disk, *model){
		func(*testing.T, *disk.Disk, *model) {},
		func(t *testing.T, d *disk.Disk, m *model) { m.wantArm(t, d, 1) },
		func(t *testing.T, d *disk.Disk, m *model) { m.wantArm(t, d, 1000) },
		func(t *testing.T, d *disk.Disk, m *model) {
			m.wantArm(t, d, 1)
			wantErrno(t, api.ErrDead, m.wantSync(t, d))
		},
		func(t *testing.T, d *disk.Disk, m *model) {
			m.wantArm(t, d, 1)
			wantErrno(t, api.ErrDead, m.wantWrite(t, d, 4, full("4")))
		},
	}
}

// unsettled is a disk with blocks 5, 2 and 7 pending, the second of which was never synced.
func unsettled(t *testing.T) (*disk.Disk, *model) {
	t.Helper()
	d, m := fresh(t, 9)
	for _, n := range []int{1, 5, 7} {
		m.wantWrite(t, d, n, full("o"))
	}
	m.wantSync(t, d)
	for _, n := range []int{7, 5, 2, 7} {
		m.wantWrite(t, d, n, striped(n))
	}
	return d, m
}

// orders are all lists of some of these numbers, each once, in all orders.
func orders(of []int) [][]int {
	all := [][]int{nil}
	for at, n := range of {
		rest := slices.Delete(slices.Clone(of), at, at+1)
		for _, list := range orders(rest) {
			all = append(all, append([]int{n}, list...))
		}
	}
	return all
}

// wantLives: a disk lives, with nothing pending, and is not armed; what it has lasts.
func wantLives(t *testing.T, d *disk.Disk, m *model) {
	t.Helper()
	m.check(t, d)
	wantPending(t, d)
	for n := range 8 {
		wantErrno(t, api.OK, m.wantWrite(t, d, n, full("l")))
	}
	m.check(t, d)
	wantErrno(t, api.OK, m.wantCrash(t, d))
	m.check(t, d)
	for range 8 {
		wantErrno(t, api.OK, m.wantSync(t, d))
	}
	m.check(t, d)
}

func TestCrashKeepsWhatItIsTold(t *testing.T) {
	for _, way := range ways() {
		for _, keep := range orders([]int{2, 5, 7, 4}) {
			d, m := unsettled(t)
			way(t, d, m)
			acts := d.Acts()
			if slices.Contains(keep, 4) && !slices.Contains(d.Pending(), 4) {
				continue
			}
			wantErrno(t, api.OK, m.wantCrash(t, d, keep...))
			wantActs(t, d, acts)
			for n := range 9 {
				want := m.begin[n]
				switch {
				case slices.Contains(keep, n) && n == 4:
					want = full("4")
				case slices.Contains(keep, n):
					want = striped(n)
				case n == 1 || n == 5 || n == 7:
					want = full("o")
				}
				if s, e := d.Read(n); s != want || e != api.OK {
					t.Errorf("Read of %d behind a Crash of %v: %.3q, %d", n, keep, s, e)
				}
			}
			wantLives(t, d, m)
		}
	}
}

// unchanged: a Crash is refused, and changes nothing: not what is there, nor whether it lives, nor when it dies.
func unchanged(t *testing.T, d *disk.Disk, m *model, keep []int) {
	t.Helper()
	dead, pending, image := d.Dead(), d.Pending(), d.Image()
	wantErrno(t, api.ErrArg, m.wantCrash(t, d, keep...))
	if d.Dead() != dead || !slices.Equal(d.Pending(), pending) || !slices.Equal(d.Image(), image) {
		t.Errorf("Crash of %v: dead: %t, pending: %v, the image is %q; not %t, %v, %q", keep, d.Dead(), d.Pending(), letters(d.Image()), dead, pending, letters(image))
	}
}

// A number that is not pending, or one that stands there already, in each place of each list.
func TestCrashOfWrongNumbers(t *testing.T) {
	for _, way := range ways() {
		for _, keep := range orders([]int{2, 5, 7}) {
			d, m := unsettled(t)
			way(t, d, m)
			wrong := append([]int{0, 1, 3, 6, 8, 9, -1, -2, -5, 4096, 1<<32 + 5, math.MaxInt, math.MinInt}, keep...)
			for at := range len(keep) + 1 {
				for _, n := range wrong {
					unchanged(t, d, m, slices.Insert(slices.Clone(keep), at, n))
				}
			}
			m.check(t, d)
			wantErrno(t, api.OK, m.wantCrash(t, d, keep...))
			wantLives(t, d, m)
		}
	}
}

// When a disk dies is not changed by a Crash that is refused.
func TestArmedBehindACrashThatIsRefused(t *testing.T) {
	for n := 1; n <= 6; n++ {
		d, m := unsettled(t)
		m.wantArm(t, d, n)
		for act := 1; act < n; act++ {
			unchanged(t, d, m, []int{7, 7})
			unchanged(t, d, m, []int{act - 1, 3})
			wantErrno(t, api.OK, m.wantWrite(t, d, act%2, full("a")))
		}
		unchanged(t, d, m, []int{7, 3})
		wantErrno(t, api.ErrDead, m.wantSync(t, d))
		unchanged(t, d, m, []int{2, 3})
		if !d.Dead() {
			t.Error("a Crash that was refused let it live")
		}
		m.check(t, d)
	}
}

// One that lives and is armed is not armed any more.
func TestCrashOfOneThatIsArmed(t *testing.T) {
	for n := 1; n <= 5; n++ {
		for acts := range n {
			d, m := fresh(t, 8)
			m.wantArm(t, d, n)
			for range acts {
				wantErrno(t, api.OK, m.wantWrite(t, d, 3, full("a")))
			}
			wantErrno(t, api.OK, m.wantCrash(t, d, d.Pending()...))
			for range 8 {
				wantErrno(t, api.OK, m.wantSync(t, d))
			}
			m.wantArm(t, d, 2)
			wantErrno(t, api.OK, m.wantSync(t, d))
			wantErrno(t, api.ErrDead, m.wantSync(t, d))
			wantActs(t, d, acts+10)
			m.check(t, d)
		}
	}
}

func TestCrashWithNothingPending(t *testing.T) {
	d, m := fresh(t, 8)
	for round := range 4 {
		for n := -1; n <= 8; n++ {
			unchanged(t, d, m, []int{n})
		}
		wantErrno(t, api.OK, m.wantCrash(t, d))
		m.check(t, d)
		m.wantWrite(t, d, round, full("a"))
		m.wantSync(t, d)
		m.check(t, d)
	}
	m.wantWrite(t, d, 1, full("b"))
	wantErrno(t, api.OK, m.wantCrash(t, d, 1))
	unchanged(t, d, m, []int{1})
	m.wantWrite(t, d, 1, full("c"))
	wantErrno(t, api.OK, m.wantCrash(t, d))
	unchanged(t, d, m, []int{1})
	wantReads(t, d, "abaa0000")
	wantActs(t, d, 10)
}

// What a Crash kept lasts as what was synced: the next Crash tells it, and not what the last Sync found.
func TestCrashBehindACrash(t *testing.T) {
	d, m := fresh(t, 8)
	m.wantWrite(t, d, 0, full("a"))
	m.wantWrite(t, d, 1, full("a"))
	m.wantSync(t, d)
	m.wantWrite(t, d, 0, full("b"))
	m.wantWrite(t, d, 1, full("b"))
	m.wantCrash(t, d, 0)
	wantReads(t, d, "ba000000")
	m.wantWrite(t, d, 1, full("c"))
	m.wantWrite(t, d, 0, full("c"))
	m.check(t, d)
	m.wantCrash(t, d)
	wantReads(t, d, "ba000000")
	m.wantWrite(t, d, 0, full("d"))
	m.wantWrite(t, d, 2, full("d"))
	m.wantCrash(t, d, 2)
	wantReads(t, d, "bad00000")
	m.check(t, d)
}

// What is kept is what was written last, not what was written ahead of it.
func TestCrashKeepsTheLastWrite(t *testing.T) {
	for _, keep := range orders([]int{3, 6}) {
		d, m := fresh(t, 8)
		for _, s := range []string{"a", "b", "c"} {
			m.wantWrite(t, d, 3, full(s))
			m.wantWrite(t, d, 6, full(s))
		}
		m.wantWrite(t, d, 3, full("d"))
		m.wantCrash(t, d, keep...)
		m.check(t, d)
	}
}

// All that is pending, on disks of many blocks, in several orders; and lists of many numbers, which are refused.
func TestCrashOfMany(t *testing.T) {
	x := numbers(1)
	for _, blocks := range []int{8, 100, 4096} {
		var all []int
		for n := range blocks {
			all = append(all, n)
		}
		for range 4 {
			keep := x.some(all)
			d, _ := fresh(t, blocks)
			for _, n := range all {
				d.Write(n, striped(n))
			}
			wantErrno(t, api.ErrArg, d.Crash(append(slices.Clone(all), 0)), d.Crash(append(slices.Clone(all), blocks)))
			wantErrno(t, api.ErrArg, d.Crash(slices.Repeat(all, 1<<20/blocks)), d.Crash(slices.Repeat([]int{blocks - 1}, 1<<20)), d.Crash(make([]int, 1<<20)))
			wantErrno(t, api.OK, d.Crash(keep))
			wantPending(t, d)
			image := d.Image()
			for n, s := range image {
				if kept := slices.Contains(keep, n); kept != (s == striped(n)) || !kept && s != full("\x00") {
					t.Errorf("block %d is %.3q; kept: %t", n, s, kept)
				}
			}
		}
	}
}
