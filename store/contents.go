package store

import (
	"cmp"
	"maps"
	"slices"
	"strings"

	"tinderbox/api"
	"tinderbox/glyph"
)

// place is where a value stands: no two pairs have both alike.
type place struct {
	table, key string
}

// right: may a pair stand here?
func (p place) right() bool {
	return glyph.IsWord(p.table) && glyph.IsWord(p.key)
}

func (p place) clone() place {
	return place{strings.Clone(p.table), strings.Clone(p.key)}
}

func byTableAndKey(a, b place) int {
	return cmp.Or(strings.Compare(a.table, b.table), strings.Compare(a.key, b.key))
}

// content is what stands at a place: a value, or nothing. (Nothing has no value: so two contents are the same where they are equal.)
type content struct {
	there bool
	value string
}

// right: may it stand anywhere?
func (c content) right() bool {
	return len(c.value) <= api.MaxValue
}

func (c content) clone() content {
	return content{c.there, strings.Clone(c.value)}
}

// contents are those of some places: pairs, none of which is nothing; or changes, of which some may be.
type contents map[place]content

// rising are the places.
func (all contents) rising() []place {
	var places []place
	for at := range all {
		places = append(places, at)
	}
	slices.SortFunc(places, byTableAndKey)
	return places
}

// put lets pairs have this at a place.
func (all contents) put(at place, c content) {
	if c.there {
		all[at] = c
	} else {
		delete(all, at)
	}
}

// with are the pairs that there are behind changes.
func (all contents) with(changes contents) contents {
	next := maps.Clone(all)
	for at, c := range changes {
		next.put(at, c)
	}
	return next
}
