package step

import (
	"slices"

	"tinderbox/api"
)

// changed are the pairs behind a step that is right, in any order and of any number; the list may be written into.
func changed(l []api.Pair, s api.Step) ([]api.Pair, api.Errno) {
	switch s.Kind {
	case api.StepPut:
		return put(l, api.Pair{Table: s.Table, Key: s.Key, Value: s.Text})
	case api.StepDrop:
		return dropped(l, s), api.OK
	case api.StepRename:
		return renamed(l, s)
	case api.StepTable:
		return retabled(l, s)
	case api.StepMap:
		return mapped(l, s)
	}
	// StepCopy is the only one that is left.
	return copied(l, s)
}

func put(l []api.Pair, p api.Pair) ([]api.Pair, api.Errno) {
	if find(l, p.Table, p.Key) >= 0 {
		return nil, api.ErrStepTaken
	}
	return append(l, p), api.OK
}

func dropped(l []api.Pair, s api.Step) []api.Pair {
	return slices.DeleteFunc(l, func(p api.Pair) bool {
		return p.Table == s.Table && (s.Key == "" || p.Key == s.Key)
	})
}

func copied(l []api.Pair, s api.Step) ([]api.Pair, api.Errno) {
	at := find(l, s.Table, s.Key)
	if at < 0 {
		return l, api.OK
	}
	return put(l, api.Pair{Table: s.Table, Key: s.To, Value: l[at].Value})
}

// renamed: to call a key otherwise is to copy it and to drop it; where it is not there, neither does anything.
func renamed(l []api.Pair, s api.Step) ([]api.Pair, api.Errno) {
	next, e := copied(l, s)
	if e != api.OK {
		return nil, e
	}
	return dropped(next, s), api.OK
}

func retabled(l []api.Pair, s api.Step) ([]api.Pair, api.Errno) {
	if !hasTable(l, s.Table) {
		return l, api.OK
	}
	if hasTable(l, s.To) {
		return nil, api.ErrStepTaken
	}
	for i := range l {
		if l[i].Table == s.Table {
			l[i].Table = s.To
		}
	}
	return l, api.OK
}

func mapped(l []api.Pair, s api.Step) ([]api.Pair, api.Errno) {
	for i := range l {
		if l[i].Table != s.Table {
			continue
		}
		value, e := Call(s.Text, l[i].Value)
		if e != api.OK {
			return nil, e
		}
		l[i].Value = value
	}
	return l, api.OK
}
