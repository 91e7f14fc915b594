package store

import (
	"tinderbox/api"
	"tinderbox/journal"
)

// taken is the store that a journal's records tell of.
func taken(j *journal.Journal) (*Store, api.Errno) {
	records, e := j.Records()
	if e != api.OK {
		return nil, e
	}
	s := &Store{journal: j, committed: contents{}}
	for at, r := range records {
		if !s.committed.take(r, at == 0) {
			return nil, api.ErrStoreImage
		}
	}
	return s, api.OK
}

// lay lets a record of the changes last; or, where that has no room, one of the whole that there is with them.
func (s *Store) lay(whole contents) api.Errno {
	if r, ok := recordOf(saysChanges, s.changes, s.journal.Room()); ok {
		return s.journal.Append(r)
	}
	if r, ok := recordOf(saysWhole, whole, s.journal.Bare()); ok {
		return s.journal.Renew(r)
	}
	return api.ErrJournalFull
}
