package journal_test

import (
	"slices"
	"testing"

	"tinderbox/api"
	"tinderbox/disk"
	"tinderbox/journal"
)

// J7, P3, P7, P8

// step is a call on a life, of the journal or of the disk.
type step func(*testing.T, *life)

func steps() []step {
	return []step{
		func(t *testing.T, l *life) { l.format(t) },
		func(t *testing.T, l *life) { l.open(t) },
		func(t *testing.T, l *life) { l.appends(t, "ab") },
		func(t *testing.T, l *life) { l.appends(t, long(120)) },
		func(t *testing.T, l *life) { l.renews(t, long(62)) },
		func(t *testing.T, l *life) { l.asks(t) },
		func(t *testing.T, l *life) { l.arm(t, 1) },
		func(t *testing.T, l *life) { l.arm(t, 3) },
		func(t *testing.T, l *life) { l.crash(t) },
		func(t *testing.T, l *life) { l.crash(t, l.disk.Pending()...) },
		func(t *testing.T, l *life) { l.sync(t) },
	}
}

func (l *life) appends(t *testing.T, s string) {
	if l.journal != nil {
		l.append(t, s)
	}
}

func (l *life) renews(t *testing.T, s string) {
	if l.journal != nil {
		l.renew(t, s)
	}
}

func (l *life) asks(t *testing.T) {
	if l.journal != nil {
		l.asked(t)
	}
}

// again is a life that did these steps.
func again(t *testing.T, past []step) *life {
	l := begun(t, 8)
	for _, step := range past {
		step(t, l)
	}
	return l
}

// All that may be done in up to four steps.
func TestAllShortLives(t *testing.T) {
	var live func(past []step)
	live = func(past []step) {
		again(t, past).check(t)
		if len(past) == 4 || t.Failed() {
			return
		}
		for _, step := range steps() {
			live(append(slices.Clip(past), step))
		}
	}
	live(nil)
}

// do does something, by the numbers; what was told.
func (x *numbers) do(t *testing.T, l *life) api.Errno {
	length := pick(x, []int{0, 1, 2, x.next() % 64, x.next() % 200, 60, 62, 64, max(0, l.room(l.used())), max(0, l.room(0)), max(0, l.room(l.used())) + 1, 60000, 60001})
	switch x.next() % 24 {
	case 0:
		return l.format(t)
	case 1, 2:
		return l.open(t)
	case 3, 4, 5:
		l.arm(t, 1+x.next()%9)
	case 6, 7, 8, 9:
		l.crash(t, x.some(l.disk.Pending())...)
	case 10:
		if l.journal == nil || l.disk.Dead() || len(l.disk.Pending()) == 0 {
			return l.sync(t)
		}
	case 11, 12:
		if l.journal != nil {
			return l.asked(t)
		}
	case 13, 14, 15:
		if l.journal != nil {
			return l.renew(t, long(length))
		}
	default:
		if l.journal != nil {
			return l.append(t, long(length))
		}
	}
	return api.OK
}

func TestManyLives(t *testing.T) {
	x := numbers(2)
	told := map[api.Errno]int{}
	for range 600 {
		l := born(t, pick(&x, [][]string{noughts(8), stripes(9), imageOf(8+x.next()%9, x.next(), x.next()%2, long(x.next()%100)), imageOf(8, 1<<62-x.next()%3, x.next()%2, "a"), imageOf(40, 1, 0)}))
		for range 80 {
			told[x.do(t, l)]++
			if x.next()%4 == 0 {
				l.check(t)
			}
		}
		l.check(t)
		l.crash(t)
		l.open(t)
		l.check(t)
	}
	for _, e := range []api.Errno{api.OK, api.ErrDead, api.ErrJournalFull, api.ErrJournalLong, api.ErrJournalImage, api.ErrJournalWorn} {
		if told[e] < 300 {
			t.Errorf("%d came up %d times alone", e, told[e])
		}
	}
}

// promise is what Open may find, by what was answered alone: each is a list of records; or none, where no journal need be there.
type promise struct {
	d       *disk.Disk
	may     [][]string
	blank   bool
	journal *journal.Journal
}

// answered: a call that would make other records of these; what was answered tells what may be found behind it.
func (p *promise) answered(e api.Errno, records []string) {
	switch e {
	case api.OK:
		p.may, p.blank = [][]string{records}, false
	case api.ErrDead:
		p.may = append(p.may, records)
	}
}

// opens crashes the disk, and opens what stands there: it is one of what may be, and just that from then on.
func (p *promise) opens(t *testing.T, x *numbers) {
	t.Helper()
	p.d.Crash(x.some(p.d.Pending()))
	if x.next()%3 == 0 {
		// At times it dies once more ahead of that, in an act of somebody else.
		p.d.Arm(1)
		p.d.Sync()
		p.d.Crash(nil)
	}
	j, e := journal.Open(p.d)
	if e == api.ErrJournalImage && p.blank {
		p.journal = nil
		return
	}
	wantErrno(t, api.OK, e)
	found, e := j.Records()
	wantErrno(t, api.OK, e)
	if !slices.ContainsFunc(p.may, func(records []string) bool { return slices.Equal(records, found) }) {
		t.Fatalf("Open found %.9q, and should have found one of %.9q", found, p.may)
	}
	p.may, p.blank, p.journal = [][]string{found}, false, j
}

// does asks for one thing; the records are known ahead of it.
func (p *promise) does(x *numbers) {
	if p.journal == nil || x.next()%12 == 0 {
		j, e := journal.Format(p.d)
		p.answered(e, nil)
		p.journal = j
		return
	}
	records, s := p.may[0], long(x.next()%150)
	if x.next()%4 == 0 {
		p.answered(p.journal.Renew(s), []string{s})
	} else {
		p.answered(p.journal.Append(s), append(slices.Clip(records), s))
	}
}

// What is found behind many deaths: what was answered, in its order, whole, and perhaps what was under way.
func TestWhatIsFoundBehindManyDeaths(t *testing.T) {
	x := numbers(3)
	deaths, kept := 0, 0
	for range 300 {
		d, e := disk.Load(pick(&x, [][]string{noughts(8 + x.next()%20), stripes(12)}))
		wantErrno(t, api.OK, e)
		p := &promise{d: d, blank: true}
		for range 40 {
			d.Arm(1 + x.next()%20)
			for !d.Dead() {
				p.does(&x)
				if x.next()%9 == 0 {
					break
				}
			}
			if d.Dead() {
				deaths++
				kept += len(p.may) - 1
			}
			p.opens(t, &x)
		}
	}
	if deaths < 5000 || kept < 4000 {
		t.Errorf("it died %d times alone, %d times in a call", deaths, kept)
	}
}

// A Renew that died leaves what was, or its record alone; both come up.
func TestRenewThatDied(t *testing.T) {
	found := map[int]int{}
	for dies := 1; dies <= 6; dies++ {
		for keep := range 8 {
			l := opened(t, 12, 3, 0, "a", "b", long(200))
			l.arm(t, dies)
			wantErrno(t, api.ErrDead, l.journal.Renew(long(130)))
			l.disk.Crash(subsets(l.disk.Pending())[keep%(1<<len(l.disk.Pending()))])
			j, e := journal.Open(l.disk)
			wantErrno(t, api.OK, e)
			all, _ := j.Records()
			found[len(all)]++
			switch len(all) {
			case 3:
				wantRecords(t, j, "a", "b", long(200))
			default:
				wantRecords(t, j, long(130))
			}
		}
	}
	if found[3] == 0 || found[1] == 0 {
		t.Errorf("%v", found)
	}
}

// What was laid down is read whole and exact, and stands there in one way: who opens it and lays it down anew has the same bytes.
func TestOneWayToStandThere(t *testing.T) {
	x := numbers(4)
	for range 300 {
		l := begun(t, 8+x.next()%60)
		for range x.next() % 12 {
			l.append(t, long(x.next()%300))
		}
		other := begun(t, l.disk.Size())
		for _, s := range l.records {
			wantErrno(t, api.OK, other.append(t, s))
		}
		if !slices.Equal(other.disk.Image(), l.disk.Image()) {
			t.Errorf("%d records stand there in two ways", len(l.records))
		}
	}
}

// What is told hangs on the calls alone: each life is the same once more.
func TestTheSameOnceMore(t *testing.T) {
	for start := range 100 {
		var lives [2][]string
		for at := range lives {
			x := numbers(start)
			l := begun(t, 8)
			for range 60 {
				x.do(t, l)
				lives[at] = append(lives[at], l.disk.Image()...)
			}
		}
		if !slices.Equal(lives[0], lives[1]) {
			t.Errorf("two lives of %d differ", start)
		}
	}
}
