package store_test

import (
	"slices"
	"testing"

	"tinderbox/api"
	"tinderbox/disk"
	"tinderbox/store"
)

// S5, P2, P3, P7

// step is a call on a life, of the store or of the disk.
type step func(*testing.T, *life)

func steps() []step {
	return []step{
		func(t *testing.T, l *life) { l.format(t) },
		func(t *testing.T, l *life) { l.open(t) },
		func(t *testing.T, l *life) { l.begins(t) },
		func(t *testing.T, l *life) { l.alters(t, "a/x=2") },
		func(t *testing.T, l *life) { l.alters(t, "a/x") },
		func(t *testing.T, l *life) { l.alters(t, "b/y="+long(160)) },
		func(t *testing.T, l *life) { l.ends(t, (*life).commit) },
		func(t *testing.T, l *life) { l.ends(t, (*life).abort) },
		func(t *testing.T, l *life) { l.arm(t, 1) },
		func(t *testing.T, l *life) { l.arm(t, 3) },
		func(t *testing.T, l *life) { l.crash(t) },
		func(t *testing.T, l *life) { l.crash(t, l.disk.Pending()...) },
		func(t *testing.T, l *life) { l.sync(t) },
	}
}

func (l *life) begins(t *testing.T) {
	if l.store != nil {
		l.begin(t)
	}
}

func (l *life) alters(t *testing.T, s string) {
	if l.store != nil {
		l.change(t, s)
	}
}

func (l *life) ends(t *testing.T, call func(*life, *testing.T) api.Errno) {
	if l.store != nil {
		call(l, t)
	}
}

// All that may be done in up to four steps, of a store that is begun.
func TestAllShortLives(t *testing.T) {
	image := imageWith(t, 8, sayChanges("a/x=1", "c/z=5"))
	var live func(past []step)
	live = func(past []step) {
		l := born(t, image)
		l.open(t)
		l.begin(t)
		l.change(t, "a/x=3")
		for _, step := range past {
			step(t, l)
		}
		l.check(t)
		if len(past) == 4 || t.Failed() {
			return
		}
		for _, step := range steps() {
			live(append(slices.Clip(past), step))
		}
	}
	live(nil)
}

// pair is one of few, whose value is of some length; at times it is none.
func (x *numbers) pair() api.Pair {
	p := api.Pair{Table: pick(x, []string{"a", "b", "ab"}), Key: pick(x, []string{"x", "y", "x.", "z-1"}), Value: long(pick(x, []int{0, 1, 2, x.next() % 40, x.next() % 201}))}
	switch x.next() % 40 {
	case 0:
		p.Table = pick(x, []string{"", "A", "a b", long(33)})
	case 1:
		p.Key = pick(x, []string{"", "A", "ä", long(33)})
	case 2:
		p.Value = long(201 + x.next()%100)
	}
	return p
}

// do does something, by the numbers; what was told.
func (x *numbers) do(t *testing.T, l *life) api.Errno {
	what := x.next() % 30
	switch {
	case what == 0:
		return l.format(t)
	case what < 3 || l.store == nil:
		return l.open(t)
	case what < 5:
		l.arm(t, 1+x.next()%12)
	case what < 8:
		l.crash(t, x.some(l.disk.Pending())...)
	case what == 8:
		if l.disk.Dead() || len(l.disk.Pending()) == 0 {
			return l.sync(t)
		}
	case what < 12:
		return l.begin(t)
	case what < 16:
		return l.put(t, x.pair())
	case what < 18:
		p := x.pair()
		return l.drop(t, p.Table, p.Key)
	case what == 18:
		return l.abort(t)
	case what < 22:
		return l.commit(t)
	default:
		l.begin(t)
		for range 1 + x.next()%4 {
			l.put(t, x.pair())
		}
		return l.commit(t)
	}
	return api.OK
}

func TestManyLives(t *testing.T) {
	x := numbers(4)
	told := map[api.Errno]int{}
	images := [][]string{
		noughts(8), noughts(11),
		imageWith(t, 9, sayWhole("a/x=1", "b/y=2")), imageWith(t, 20, sayChanges("a/x=1"), sayChanges("b/y=2")), imageWith(t, 9, sayChanges("a/x")),
		aged(imageWith(t, 8, sayChanges("a/x=1")), 1<<62-2), aged(imageWith(t, 8, "\x01"), 1<<62),
		imageWith(t, 200, sayWhole(many("t", 499, 0)...)), imageWith(t, 200, sayChanges(many("t", 498, 0)...)),
	}
	for round := range 450 {
		l := born(t, images[round%len(images)])
		for range 80 {
			told[x.do(t, l)]++
			if x.next()%5 == 0 {
				l.check(t)
			}
		}
		l.check(t)
		l.crash(t)
		l.open(t)
		l.check(t)
	}
	for _, e := range []api.Errno{api.OK, api.ErrDead, api.ErrJournalFull, api.ErrJournalWorn, api.ErrStoreForm, api.ErrStoreOpen, api.ErrStoreMany, api.ErrStoreImage} {
		if told[e] < 100 {
			t.Errorf("%d came up %d times alone", e, told[e])
		}
	}
}

// promise is what Open may find, by what was answered alone: each is a list of pairs; or none, where no store need be there.
type promise struct {
	d     *disk.Disk
	may   [][]api.Pair
	blank bool
	store *store.Store
}

// answered: a call that would make other pairs of these; what was answered tells what may be found behind it.
func (p *promise) answered(e api.Errno, pairs []api.Pair) {
	switch e {
	case api.OK:
		p.may, p.blank = [][]api.Pair{pairs}, false
	case api.ErrDead:
		p.may = append(p.may, pairs)
	}
}

// opens crashes the disk, and opens what stands there: it is one of what may be, and just that from then on.
func (p *promise) opens(t *testing.T, x *numbers) {
	t.Helper()
	p.d.Crash(x.some(p.d.Pending()))
	if x.next()%3 == 0 {
		// At times it dies once more ahead of that, in an act of somebody else.
		p.d.Arm(1)
		p.d.Sync()
		p.d.Crash(nil)
	}
	s, e := store.Open(p.d)
	if e == api.ErrStoreImage && p.blank {
		p.store = nil
		return
	}
	wantErrno(t, api.OK, e)
	found := s.All()
	if !slices.ContainsFunc(p.may, func(pairs []api.Pair) bool { return slices.Equal(pairs, found) }) {
		t.Fatalf("Open found %.20q, and should have found one of %.20q", found, p.may)
	}
	p.may, p.blank, p.store = [][]api.Pair{found}, false, s
}

// does asks for one thing; the pairs are known ahead of it. Nobody asks for a death in the midst of changes, as these do no acts.
func (p *promise) does(t *testing.T, x *numbers) {
	if p.store == nil || x.next()%15 == 0 {
		s, e := store.Format(p.d)
		p.answered(e, nil)
		p.store = s
		return
	}
	wantErrno(t, api.OK, p.store.Begin())
	var changes []change
	for range x.next() % 6 {
		c := change{x.pair(), x.next()%3 == 0}
		e := p.store.Put(c.pair)
		if c.goes {
			e = p.store.Drop(c.pair.Table, c.pair.Key)
		}
		if e == api.OK {
			changes = append(changes, c)
		}
	}
	if x.next()%5 == 0 {
		wantErrno(t, api.OK, p.store.Abort())
	} else {
		_, next := counting(p.may[0], changes)
		p.answered(p.store.Commit(), next)
	}
	if !p.d.Dead() {
		wantPairs(t, p.store, p.may[0])
	}
}

// What is found behind many deaths: what was committed, and perhaps what was under way.
func TestWhatIsFoundBehindManyDeaths(t *testing.T) {
	x := numbers(5)
	deaths, found := 0, 0
	for range 200 {
		d, e := disk.New(pick(&x, []int{8, 9, 12, 30, 64}))
		wantErrno(t, api.OK, e)
		p := &promise{d: d, blank: true}
		for range 40 {
			d.Arm(1 + x.next()%20)
			for !d.Dead() {
				p.does(t, &x)
				if x.next()%9 == 0 {
					break
				}
			}
			both := d.Dead() && len(p.may) == 2 && !slices.Equal(p.may[0], p.may[1])
			if both {
				deaths++
			}
			may := p.may
			if p.opens(t, &x); both && p.store != nil && slices.Equal(p.may[0], may[1]) {
				found++
			}
		}
	}
	if deaths < 2000 || found < 400 || deaths-found < 400 {
		t.Errorf("it died in a Commit %d times, behind which there was something new %d times", deaths, found)
	}
}

// Open of what stands there at any time gives the same pairs: also while the store is begun.
func TestOpenAtAnyTime(t *testing.T) {
	x := numbers(6)
	for range 60 {
		l := laid(t, 8+x.next()%20)
		for range 60 {
			x.do(t, l)
			if l.store == nil || !l.lives() {
				continue
			}
			copied, e := disk.Load(l.disk.Image())
			wantErrno(t, api.OK, e)
			for _, d := range []*disk.Disk{l.disk, copied} {
				s, e := store.Open(d)
				wantErrno(t, api.OK, e)
				wantPairs(t, s, l.pairs)
			}
			l.check(t)
		}
	}
}

// orders are all orders of some texts.
func orders(l []string) [][]string {
	if len(l) == 0 {
		return [][]string{nil}
	}
	var all [][]string
	for at := range l {
		for _, rest := range orders(slices.Delete(slices.Clone(l), at, at+1)) {
			all = append(all, append([]string{l[at]}, rest...))
		}
	}
	return all
}

// In which order different keys are changed does not matter, nor in which order a map is gone through: the disk is the same, byte for byte.
func TestOrderOfChangesDoesNotMatter(t *testing.T) {
	var first []string
	for _, changes := range orders([]string{"a/x", "a/y=2", "ab/y=3", "b/x=4", "b/y"}) {
		l := holding(t, 9, "a/x=1", "b/y=2", "c/z=3")
		wantErrno(t, api.OK, l.commits(t, changes...))
		l.check(t)
		image := l.disk.Image()
		wantErrno(t, api.OK, l.commits(t, "a/x="+long(90)))
		l.check(t)
		image = append(image, l.disk.Image()...)
		if first == nil {
			first = image
		}
		if !slices.Equal(image, first) {
			t.Errorf("%q: another image", changes)
		}
	}
	x := numbers(7)
	all := many("t", 300, 2)
	for range 20 {
		for range 300 {
			at := x.next() % 300
			all[at], all[0] = all[0], all[at]
		}
		l := laid(t, 400)
		wantErrno(t, api.OK, l.commits(t, all...))
		wantAll(t, l.store, many("t", 300, 2)...)
		wantRecords(t, l.disk, sayChanges(many("t", 300, 2)...))
	}
}

// What was laid down is read whole and exact, and stands there in one way: who takes the records up, and lays the same pairs down by the same Commits, has the same bytes.
func TestOneWayToStandThere(t *testing.T) {
	x := numbers(8)
	for range 100 {
		one, two := laid(t, 20), laid(t, 20)
		for range 30 {
			_, ahead, _ := one.stands()
			one.begin(t)
			for range x.next() % 6 {
				one.put(t, x.pair())
				p := x.pair()
				one.drop(t, p.Table, p.Key)
			}
			if one.commit(t) != api.OK {
				continue
			}
			// The other one is told what became of each pair alone.
			two.begin(t)
			for _, p := range ahead {
				two.drop(t, p.Table, p.Key)
			}
			for _, p := range one.store.All() {
				two.put(t, p)
			}
			wantErrno(t, api.OK, two.commit(t))
			one.check(t)
			two.check(t)
			if !slices.Equal(one.disk.Image(), two.disk.Image()) {
				t.Fatalf("%.20q stand there in two ways", one.pairs)
			}
		}
	}
}

// What is told hangs on the calls alone: each life is the same once more.
func TestTheSameOnceMore(t *testing.T) {
	for start := range 60 {
		var lives [2][]string
		for at := range lives {
			x := numbers(start)
			l := laid(t, 9)
			for range 60 {
				x.do(t, l)
				lives[at] = append(lives[at], l.disk.Image()...)
			}
		}
		if !slices.Equal(lives[0], lives[1]) {
			t.Errorf("two lives of %d differ", start)
		}
	}
}
