package store

import (
	"tinderbox/api"
	"tinderbox/codec"
)

// What a record says, and what becomes of a key that is changed: the numbers that stand there.
const (
	saysChanges = 0
	saysWhole   = 1

	keyGoes = 0
	keyPut  = 1
)

// recordOf says changes, or the whole; false, if it would have more than so many bytes.
func recordOf(says int, all contents, most int) (string, bool) {
	w := codec.NewWriter(most)
	w.Num(says)
	for _, at := range all.rising() {
		w.Text(at.table)
		w.Text(at.key)
		writeContent(w, says, all[at])
	}
	s, e := w.Done()
	return s, e == api.OK
}

func writeContent(w *codec.Writer, says int, c content) {
	if says == saysChanges && !c.there {
		w.Num(keyGoes)
		return
	}
	if says == saysChanges {
		w.Num(keyPut)
	}
	w.Text(c.value)
}

// readContent is what a record says of a key; false, if it says nothing.
func readContent(r *codec.Reader, says int) (content, bool) {
	becomes := keyPut
	if says == saysChanges {
		becomes = r.Num()
	}
	switch becomes {
	case keyGoes:
		return content{}, true
	case keyPut:
		return content{there: true, value: r.Text(api.MaxValue)}, true
	}
	return content{}, false
}

// mayBegin: may a record that says this begin so, with so many bytes behind it?
func mayBegin(says int, first bool, left int) bool {
	switch says {
	case saysChanges:
		return left > 0
	case saysWhole:
		return first
	}
	return false
}

// take lets pairs be what a record makes of them; false, if it is not right: then they may be anything.
func (all contents) take(s string, first bool) bool {
	r := codec.NewReader(s)
	says := r.Num()
	if !mayBegin(says, first, r.Left()) {
		return false
	}
	// The empty one stands ahead of all that may be.
	var last place
	for r.Left() > 0 {
		at := place{r.Text(api.MaxName), r.Text(api.MaxName)}
		c, ok := readContent(r, says)
		// Ahead of the whole there is nothing: so each pair of that changes something, too.
		if !ok || !at.right() || byTableAndKey(last, at) >= 0 || c == all[at] {
			return false
		}
		all.put(at, c)
		last = at
	}
	return r.Done() == api.OK && len(all) <= api.MaxPairs
}
