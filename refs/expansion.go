package refs

import (
	"maps"

	"tinderbox/api"
	"tinderbox/value"
)

// speaker is a setting's text, as it is printed, and the names of what it speaks of.
type speaker struct {
	text  string
	names []string
}

// expansion is a setting's; of one that would be too long it is nothing but that.
type expansion struct {
	text string
	long bool
}

// expansions are those of all settings, by names; what is wrong first, and with which one.
func expansions(all []api.Setting) (map[string]expansion, api.Errno, string) {
	underWay, e, name := speakers(all)
	if e != api.OK {
		return nil, e, name
	}
	known := expandUnderWay(all, underWay)
	// Those that are left hang on themselves, or lead to one that does.
	for _, one := range all {
		if leads(one.Name, one.Name, maps.Clone(underWay)) {
			return nil, api.ErrRefsLoop, one.Name
		}
	}
	for _, one := range all {
		if known[one.Name].long {
			return nil, api.ErrRefsLong, one.Name
		}
	}
	return known, api.OK, ""
}

// speakers are all settings, by names; the first one whose text is not well formed, else the first that speaks of what is none of them.
func speakers(all []api.Setting) (map[string]speaker, api.Errno, string) {
	found := map[string]speaker{}
	for _, one := range all {
		// No other kind than Text is printed with a dollar sign: the others speak of nothing.
		text, _ := value.Print(one.Value)
		names, e := Names(text)
		if e != api.OK {
			return nil, e, one.Name
		}
		found[one.Name] = speaker{text, names}
	}
	for _, one := range all {
		for _, name := range found[one.Name].names {
			if _, there := found[name]; !there {
				return nil, api.ErrRefsName, one.Name
			}
		}
	}
	return found, api.OK, ""
}

// expandUnderWay expands settings that are under way, each as soon as nothing that it speaks of is under way any more, and takes it out of them. Those that wait for one another stay.
func expandUnderWay(all []api.Setting, underWay map[string]speaker) map[string]expansion {
	known := map[string]expansion{}
	for more := true; more; {
		more = false
		for _, one := range all {
			s, is := underWay[one.Name]
			if !is || waits(s, underWay) {
				continue
			}
			known[one.Name] = expanded(s.text, known)
			delete(underWay, one.Name)
			more = true
		}
	}
	return known
}

// waits: does a setting speak of one that is under way?
func waits(s speaker, underWay map[string]speaker) bool {
	for _, name := range s.names {
		if _, is := underWay[name]; is {
			return true
		}
	}
	return false
}

// leads: does a setting lead to another one by some that are under way? Each that it comes to is taken out of them, so that it comes there once.
func leads(from, to string, underWay map[string]speaker) bool {
	names := underWay[from].names
	delete(underWay, from)
	for _, name := range names {
		if name == to || leads(name, to, underWay) {
			return true
		}
	}
	return false
}
