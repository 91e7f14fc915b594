package layer

import (
	"strings"

	"tinderbox/api"
	"tinderbox/key"
	"tinderbox/value"
)

// held is a setting's value, and where it is from.
type held struct {
	value api.Value
	from  int
}

// originsMayBe: do origins rise, and is each of them one that gives lists?
func originsMayBe(from []int) bool {
	last := api.FromDefault
	for _, origin := range from {
		if origin <= last || origin > api.FromFlag {
			return false
		}
		last = origin
	}
	return true
}

// defaults are a set's settings where nobody gave anything.
func defaults(s *key.Set) *Settings {
	x := &Settings{}
	for _, k := range s.All() {
		// A set takes no default that this would refuse.
		v, _ := value.Parse(k.Kind, k.Default)
		x.definitions = append(x.definitions, definition{strings.Clone(k.Name), k.Kind, k.Least, k.Most})
		x.held = append(x.held, held{v, api.FromDefault})
	}
	return x
}

// lay lays a list over what is held; what is wrong, and where. It writes into the list that is there: nobody else has it yet.
func (x *Settings) lay(list []api.Given, from int) (api.Errno, int) {
	for i, g := range list {
		at, ok := x.place(g.Name)
		if !ok {
			return api.ErrLayerName, i
		}
		v, ok := x.read(at, g.Text)
		if !ok {
			return api.ErrLayerValue, i
		}
		x.held[at] = held{v, from}
	}
	return api.OK, 0
}

// setting is the one at a place.
func (x *Settings) setting(at int) api.Setting {
	h := x.held[at]
	return api.Setting{Name: x.called(at), Value: copied(h.value), From: h.from}
}

// copied is a value with texts and words of its own: a piece of what was handed in would keep the whole of it, and a list that is shared may be written into.
func copied(v api.Value) api.Value {
	v.Text = strings.Clone(v.Text)
	var words []string
	for _, word := range v.Words {
		words = append(words, strings.Clone(word))
	}
	v.Words = words
	return v
}
