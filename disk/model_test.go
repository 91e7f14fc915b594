package disk_test

import (
	"math"
	"slices"
	"strings"
	"testing"

	"tinderbox/api"
	"tinderbox/disk"
)

// The chapter's words once more: a model keeps all that was done, from the beginning on, and looks back through it for what was written last, what lasts and what is pending.

const (
	wrote = iota + 1
	synced
	crashed
)

// event is something that was done: a block was written so, all was synced, or some blocks were kept.
type event struct {
	what int
	n    int
	s    string
	keep []int
}

type model struct {
	begin []string
	past  []event
	acts  int
	// In which act it dies, counted from the beginning on; 0, if it is not armed.
	dies uint64
	dead bool
}

// written is what was written last of a block ahead of the event of that place.
func (m *model) written(n, place int) string {
	for at := place - 1; at >= 0; at-- {
		e := m.past[at]
		switch {
		case e.what == wrote && e.n == n:
			return e.s
		case e.what == crashed && !slices.Contains(e.keep, n):
			return m.lasts(n, at)
		}
	}
	return m.begin[n]
}

// lasts is what lasts of a block ahead of the event of that place.
func (m *model) lasts(n, place int) string {
	for at := place - 1; at >= 0; at-- {
		e := m.past[at]
		if e.what == synced || e.what == crashed && slices.Contains(e.keep, n) {
			return m.written(n, at)
		}
	}
	return m.begin[n]
}

// image is what was written last, block by block.
func (m *model) image() []string {
	var image []string
	for n := range m.begin {
		image = append(image, m.written(n, len(m.past)))
	}
	return image
}

// pending are the blocks that were written since all was synced, or since a crash, from the one that was written last back.
func (m *model) pending() []int {
	var back []int
	for at := len(m.past) - 1; at >= 0 && m.past[at].what == wrote; at-- {
		if n := m.past[at].n; !slices.Contains(back, n) {
			back = append(back, n)
		}
	}
	slices.Reverse(back)
	return back
}

func (m *model) has(n int) bool {
	return n >= 0 && n <= len(m.begin)-1
}

// act is an act; true, if the disk dies in it.
func (m *model) act() bool {
	m.acts++
	m.dead = m.dies == uint64(m.acts)
	return m.dead
}

func (m *model) read(n int) (string, api.Errno) {
	switch {
	case !m.has(n):
		return "", api.ErrArg
	case m.dead:
		return "", api.ErrDead
	}
	return m.written(n, len(m.past)), api.OK
}

func (m *model) write(n int, s string) api.Errno {
	if !m.has(n) || len(s) != 64 {
		return api.ErrArg
	}
	if m.dead {
		return api.ErrDead
	}
	m.past = append(m.past, event{what: wrote, n: n, s: s})
	if m.act() {
		return api.ErrDead
	}
	return api.OK
}

func (m *model) sync() api.Errno {
	if m.dead || m.act() {
		return api.ErrDead
	}
	m.past = append(m.past, event{what: synced})
	return api.OK
}

func (m *model) arm(n int) api.Errno {
	if n <= 0 {
		return api.ErrArg
	}
	if m.dead {
		return api.ErrDead
	}
	m.dies = uint64(m.acts) + uint64(n)
	return api.OK
}

func (m *model) crash(keep []int) api.Errno {
	pending := m.pending()
	for at, n := range keep {
		if !slices.Contains(pending, n) || slices.Contains(keep[:at], n) {
			return api.ErrArg
		}
	}
	m.past = append(m.past, event{what: crashed, keep: slices.Clone(keep)})
	m.dead, m.dies = false, 0
	return api.OK
}

// check holds a disk against the model; what is asked changes nothing.
func (m *model) check(t *testing.T, d *disk.Disk) {
	t.Helper()
	image, pending := m.image(), m.pending()
	for range 2 {
		if d.Size() != len(m.begin) || d.Dead() != m.dead || d.Acts() != m.acts {
			t.Errorf("behind %v: of %d blocks, dead: %t, acts: %d; not %d, %t, %d", brief(m.past), d.Size(), d.Dead(), d.Acts(), len(m.begin), m.dead, m.acts)
		}
		if got := d.Pending(); !slices.Equal(got, pending) {
			t.Errorf("behind %v: %v is pending, not %v", brief(m.past), got, pending)
		}
		if got := d.Image(); !slices.Equal(got, image) {
			t.Errorf("behind %v: the image is %q, not %q", brief(m.past), letters(got), letters(image))
		}
		for n := -1; n <= len(image); n++ {
			m.wantRead(t, d, n)
		}
		for _, n := range []int{math.MinInt, math.MaxInt, -len(image), len(image) + 1<<32} {
			m.wantRead(t, d, n)
		}
	}
}

func (m *model) wantRead(t *testing.T, d *disk.Disk, n int) {
	t.Helper()
	s, e := d.Read(n)
	if want, wantE := m.read(n); s != want || e != wantE {
		t.Errorf("behind %v: Read of %d: %.3q, %d; not %.3q, %d", brief(m.past), n, s, e, want, wantE)
	}
}

func (m *model) wantWrite(t *testing.T, d *disk.Disk, n int, s string) api.Errno {
	t.Helper()
	return m.want(t, "Write", d.Write(n, s), m.write(n, s))
}

func (m *model) wantSync(t *testing.T, d *disk.Disk) api.Errno {
	t.Helper()
	return m.want(t, "Sync", d.Sync(), m.sync())
}

func (m *model) wantArm(t *testing.T, d *disk.Disk, n int) api.Errno {
	t.Helper()
	return m.want(t, "Arm", d.Arm(n), m.arm(n))
}

func (m *model) wantCrash(t *testing.T, d *disk.Disk, keep ...int) api.Errno {
	t.Helper()
	return m.want(t, "Crash", d.Crash(keep), m.crash(keep))
}

func (m *model) want(t *testing.T, call string, e, want api.Errno) api.Errno {
	t.Helper()
	if e != want {
		t.Errorf("behind %v: %s: %d, not %d", brief(m.past), call, e, want)
	}
	return e
}

// fresh is a disk of noughts, and what it is by the chapter's words.
func fresh(t *testing.T, blocks int) (*disk.Disk, *model) {
	t.Helper()
	d, e := disk.New(blocks)
	if d == nil || e != api.OK {
		t.Fatalf("New of %d: %d", blocks, e)
	}
	return d, &model{begin: slices.Repeat([]string{full("\x00")}, blocks)}
}

// loaded is a disk with such blocks.
func loaded(t *testing.T, image []string) (*disk.Disk, *model) {
	t.Helper()
	d, e := disk.Load(image)
	if d == nil || e != api.OK {
		t.Fatalf("Load of %d: %d", len(image), e)
	}
	return d, &model{begin: slices.Clone(image)}
}

// wantErrno: each of some calls answers this.
func wantErrno(t *testing.T, want api.Errno, all ...api.Errno) {
	t.Helper()
	for at, e := range all {
		if e != want {
			t.Errorf("call %d: %d, not %d", at, e, want)
		}
	}
}

// wantReads: the first blocks of a disk that lives are full of these letters, one for each block; a nought stands for a byte 0.
func wantReads(t *testing.T, d *disk.Disk, want string) {
	t.Helper()
	for n := range len(want) {
		s, e := d.Read(n)
		if e != api.OK || s != full(strings.ReplaceAll(want[n:n+1], "0", "\x00")) {
			t.Errorf("Read of %d: %.3q, %d; not %c", n, s, e, want[n])
		}
	}
}

func wantPending(t *testing.T, d *disk.Disk, want ...int) {
	t.Helper()
	if got := d.Pending(); !slices.Equal(got, want) {
		t.Errorf("%v is pending, not %v", got, want)
	}
}

func wantActs(t *testing.T, d *disk.Disk, want int) {
	t.Helper()
	if got := d.Acts(); got != want {
		t.Errorf("%d acts, not %d", got, want)
	}
}

// full is a block with one byte all over.
func full(s string) string {
	return strings.Repeat(s, 64)
}

// striped is a block of 64 different bytes.
func striped(first int) string {
	var b [64]byte
	for at := range b {
		b[at] = byte(first + 37*at)
	}
	return string(b[:])
}

// stripes are so many different blocks.
func stripes(count int) []string {
	image := make([]string, count)
	for n := range image {
		image[n] = striped(n)[:60] + string([]byte{byte(n), byte(n >> 8), 0, 0xff})
	}
	return image
}

// letters are the first bytes of blocks.
func letters(image []string) string {
	var first strings.Builder
	for _, s := range image {
		first.WriteString(strings.ReplaceAll(s[:1], "\x00", "0"))
	}
	return first.String()
}

// brief are events with the first bytes of what was written alone.
func brief(past []event) []event {
	all := slices.Clone(past[max(0, len(past)-12):])
	for at := range all {
		all[at].s = all[at].s[:min(1, len(all[at].s))]
	}
	return all
}

// numbers gives the same numbers in every run.
type numbers uint64

func (x *numbers) next() int {
	*x = *x*6364136223846793005 + 1442695040888963407
	return int(*x >> 33)
}

// pick is one of some.
func pick[E any](x *numbers, l []E) E {
	return l[x.next()%len(l)]
}

// some are some of the elements of a list, in some order.
func (x *numbers) some(list []int) []int {
	mixed := slices.Clone(list)
	for i := range mixed {
		at := x.next() % (i + 1)
		mixed[i], mixed[at] = mixed[at], mixed[i]
	}
	return mixed[:x.next()%(len(mixed)+1)]
}
