package disk_test

import (
	"slices"
	"testing"

	"tinderbox/api"
	"tinderbox/disk"
)

// K6, P8

// deed is a call, on a disk and on what it is by the chapter's words.
type deed func(*testing.T, *disk.Disk, *model)

func writing(n int, s string) deed {
	return func(t *testing.T, d *disk.Disk, m *model) { m.wantWrite(t, d, n, s) }
}

func syncing(t *testing.T, d *disk.Disk, m *model) {
	m.wantSync(t, d)
}

func arming(n int) deed {
	return func(t *testing.T, d *disk.Disk, m *model) { m.wantArm(t, d, n) }
}

func crashing(keep ...int) deed {
	return func(t *testing.T, d *disk.Disk, m *model) { m.wantCrash(t, d, keep...) }
}

// All that may be done in up to five calls of these, and a Crash behind it, which shows what lasts.
func TestAllShortLives(t *testing.T) {
	deeds := []deed{
		writing(0, full("a")), writing(0, full("b")), writing(7, full("c")), syncing, arming(1), arming(2),
		crashing(), crashing(0), crashing(7, 0), crashing(0, 0),
	}
	var live func(past []deed)
	live = func(past []deed) {
		d, m := fresh(t, 8)
		for _, deed := range past {
			deed(t, d, m)
		}
		m.check(t, d)
		m.wantCrash(t, d)
		m.check(t, d)
		if len(past) == 5 || t.Failed() {
			return
		}
		for _, deed := range deeds {
			live(append(slices.Clip(past), deed))
		}
	}
	live(nil)
}

// A life with deaths at every act, and all that may be kept of what is pending then.
func TestEveryDeathAndEveryCrash(t *testing.T) {
	life := []deed{
		writing(0, full("a")), writing(1, full("b")), syncing, writing(1, full("c")), writing(0, full("d")),
		writing(2, full("e")), writing(1, full("f")), syncing, syncing, writing(7, full("g")), writing(0, full("h")),
	}
	for dies := 1; dies <= len(life); dies++ {
		lived := func() (*disk.Disk, *model) {
			d, m := fresh(t, 8)
			m.wantArm(t, d, dies)
			for _, deed := range life {
				deed(t, d, m)
			}
			return d, m
		}
		d, _ := lived()
		if !d.Dead() || d.Acts() != dies {
			t.Errorf("it did not die in act %d", dies)
		}
		for _, keep := range orders(d.Pending()) {
			d, m := lived()
			m.check(t, d)
			wantErrno(t, api.OK, m.wantCrash(t, d, keep...))
			wantLives(t, d, m)
		}
	}
}

// lawOfCrash crashes a disk, and holds what is read behind it against the images ahead of it: what lasted, and what was written last.
func lawOfCrash(t *testing.T, d *disk.Disk, lasted []string, keep []int) {
	t.Helper()
	last := d.Image()
	wantErrno(t, api.OK, d.Crash(keep))
	for n := range last {
		want := lasted[n]
		if slices.Contains(keep, n) {
			want = last[n]
		}
		if s, e := d.Read(n); s != want || e != api.OK {
			t.Errorf("Read of %d behind a Crash of %v: %.3q, %d; not %.3q", n, keep, s, e, want)
		}
	}
}

// wantLoads: Load of a disk's Image reads as the disk does; it lasts, and knows nothing of the disk.
func wantLoads(t *testing.T, d *disk.Disk) {
	t.Helper()
	image := d.Image()
	other, m := loaded(t, image)
	m.check(t, other)
	for n := range min(len(image), 20) {
		s, e := d.Read(n)
		if got, _ := other.Read(n); e == api.OK && got != s {
			t.Errorf("Read of %d: %.3q, not %.3q", n, got, s)
		}
	}
	m.wantWrite(t, other, 0, full("o"))
	m.wantCrash(t, other)
	m.wantWrite(t, other, len(image)-1, full("w"))
	m.wantSync(t, other)
	m.check(t, other)
	if !slices.Equal(d.Image(), image) {
		t.Errorf("a disk that was loaded from it changed it")
	}
}

// do does something to a disk, by the numbers, as likely as not what is refused; what was told.
func (x *numbers) do(t *testing.T, d *disk.Disk, m *model) api.Errno {
	n := x.next()%(len(m.begin)+1) - x.next()%2
	switch x.next() % 12 {
	case 0, 1, 2, 3, 4:
		return m.wantWrite(t, d, n, striped(x.next()))
	case 5:
		return m.wantWrite(t, d, n, pick(x, []string{"", full("s")[1:], full("s") + "s", full("\x00"), full("s")}))
	case 6, 7:
		return m.wantSync(t, d)
	case 8:
		return m.wantArm(t, d, x.next()%12-1)
	case 9:
		keep := x.some(d.Pending())
		if x.next()%2 == 0 {
			keep = append(keep, n)
		}
		return m.wantCrash(t, d, keep...)
	default:
		_, e := d.Read(n)
		_, want := m.read(n)
		return m.want(t, "Read", e, want)
	}
}

func TestManyLives(t *testing.T) {
	x := numbers(2)
	told := map[api.Errno]int{}
	for range 1500 {
		d, m := fresh(t, 8+x.next()%12)
		if x.next()%2 == 0 {
			d, m = loaded(t, stripes(8+x.next()%12))
		}
		for range 60 {
			told[x.do(t, d, m)]++
			if x.next()%6 == 0 {
				m.check(t, d)
			}
		}
		m.check(t, d)
		wantLoads(t, d)
		m.wantCrash(t, d, x.some(d.Pending())...)
		m.check(t, d)
	}
	for _, e := range []api.Errno{api.OK, api.ErrArg, api.ErrDead} {
		if told[e] < 1000 {
			t.Errorf("%d came up %d times alone", e, told[e])
		}
	}
}

// What is read behind a Crash, by the images that were told ahead of it alone.
func TestWhatIsReadBehindACrash(t *testing.T) {
	x := numbers(3)
	for range 400 {
		d, e := disk.Load(stripes(8 + x.next()%40))
		wantErrno(t, api.OK, e)
		for range 8 {
			lasted := d.Image()
			d.Arm(1 + x.next()%60)
			for range x.next() % 40 {
				if e := d.Write(x.next()%d.Size(), striped(x.next())); e == api.OK && x.next()%12 == 0 && d.Sync() == api.OK {
					lasted = d.Image()
				}
			}
			if x.next()%2 == 0 {
				wantLoads(t, d)
			}
			lawOfCrash(t, d, lasted, x.some(d.Pending()))
		}
	}
}

// Nothing that was written ahead of a Sync that was done is ever lost: a block reads as it did then, or as something that was written behind it.
func TestWhatWasSyncedIsNeverLost(t *testing.T) {
	x := numbers(4)
	for range 400 {
		d, _ := fresh(t, 8+x.next()%8)
		for range 10 {
			d.Write(x.next()%d.Size(), striped(x.next()))
		}
		wantErrno(t, api.OK, d.Sync())
		may := make([][]string, d.Size())
		for n, s := range d.Image() {
			may[n] = []string{s}
		}
		for range 60 {
			switch n, s := x.next()%(d.Size()/2), striped(x.next()); x.next() % 8 {
			case 0:
				d.Sync()
			case 1:
				d.Arm(1 + x.next()%9)
			case 2:
				d.Crash(x.some(d.Pending()))
			case 3:
				d.Crash([]int{n})
			default:
				if !d.Dead() {
					may[n] = append(may[n], s)
				}
				d.Write(n, s)
			}
			for n, s := range d.Image() {
				if !slices.Contains(may[n], s) {
					t.Fatalf("block %d is %.3q, which was lost or never written", n, s)
				}
			}
		}
	}
}

// What is told hangs on the calls alone: each life is the same once more.
func TestTheSameOnceMore(t *testing.T) {
	for start := range 200 {
		var lives [2][]string
		for at := range lives {
			x := numbers(start)
			d, m := fresh(t, 8)
			for range 80 {
				x.do(t, d, m)
				lives[at] = append(lives[at], d.Image()...)
			}
		}
		if !slices.Equal(lives[0], lives[1]) {
			t.Errorf("two lives of %d differ", start)
		}
	}
}
