package store

import "tinderbox/api"

// lives: does its disk, and is its journal not in doubt? To ask puts nothing in doubt.
func (s *Store) lives() bool {
	return s.journal.Gen() >= 0
}

// check tells why a call may not go on that wants changes to be begun, or not to be.
func (s *Store) check(begun bool) api.Errno {
	if !s.lives() {
		// Whoever answers ErrDead puts the journal in doubt: this call of it does both.
		_, e := s.journal.Records()
		return e
	}
	if begun != (s.changes != nil) {
		return api.ErrStoreOpen
	}
	return api.OK
}

// change notes what is to stand at a place.
func (s *Store) change(at place, c content) api.Errno {
	if !at.right() || !c.right() {
		return api.ErrStoreForm
	}
	if e := s.check(true); e != api.OK {
		return e
	}
	// What is committed stays as it is while these changes are begun: so what changes nothing of it now will not count either.
	if c == s.committed[at] {
		delete(s.changes, at)
	} else {
		s.changes[at.clone()] = c.clone()
	}
	return api.OK
}

// forget ends what is begun.
func (s *Store) forget() {
	s.changes = nil
}
