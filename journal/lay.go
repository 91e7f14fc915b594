package journal

import "tinderbox/api"

// put lays a record down in an area, behind so many bytes of it.
func (j *Journal) put(s string, area, behind int) (e api.Errno) {
	e = api.ErrDead
	defer j.settle(&e)
	switch {
	case len(s) > api.MaxRecord:
		return api.ErrJournalLong
	case !j.lives():
		return api.ErrDead
	case j.head.gen == api.MaxGen:
		return api.ErrJournalWorn
	case takes(s) > j.areaBytes()-behind:
		return api.ErrJournalFull
	}
	return j.lay(s, area, behind)
}

// lay writes the record ahead of the head: until that stands there, the records are those that it named ahead of this.
func (j *Journal) lay(s string, area, behind int) api.Errno {
	if e := j.writeBytes(area, behind, recordBytes(s)); e != api.OK {
		return e
	}
	return j.writeHead(head{gen: j.head.gen + 1, area: area, used: behind + takes(s)})
}

// writeHead lets a head last, and is by it from then on.
func (j *Journal) writeHead(h head) api.Errno {
	if e := j.disk.Write(headBlock, h.text()); e != api.OK {
		return e
	}
	if e := j.disk.Sync(); e != api.OK {
		return e
	}
	j.head = h
	return api.OK
}

// read are the records that the head names.
func (j *Journal) read() ([]string, api.Errno) {
	s, e := j.firstBytes(j.head.area, j.head.used)
	if e != api.OK {
		return nil, e
	}
	all, ok := recordsIn(s)
	if !ok {
		return nil, api.ErrJournalImage
	}
	return all, api.OK
}

// room is how long a record may be behind so many bytes of an area.
func (j *Journal) room(behind int) int {
	if !j.lives() {
		return none
	}
	return max(none, min(j.areaBytes()-behind-takes(""), api.MaxRecord))
}

// lives: does its disk, and is it not in doubt?
func (j *Journal) lives() bool {
	return !j.doubt && !j.disk.Dead()
}

// settle puts a journal in doubt behind a call that answers ErrDead. A call answers that from its beginning on, until it knows better: so one that does not come to its end puts it in doubt, too.
func (j *Journal) settle(e *api.Errno) {
	if *e == api.ErrDead {
		j.doubt = true
	}
}
