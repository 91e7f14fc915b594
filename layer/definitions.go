package layer

import (
	"slices"
	"strings"

	"tinderbox/api"
	"tinderbox/value"
)

// definition is what settings ask of one as long as they are there; its default is asked for once.
type definition struct {
	name        string
	kind        int
	least, most int
}

// definitions are those that a set had when settings were made of it, by rising names.
type definitions []definition

// place is where the definition of a name stands; false, if there is none.
func (d definitions) place(name string) (int, bool) {
	return slices.BinarySearchFunc(d, name, func(one definition, name string) int {
		return strings.Compare(one.name, name)
	})
}

// called is the name of the definition at a place.
func (d definitions) called(at int) string {
	return d[at].name
}

// mayBe: may a value be that of the setting at a place?
func (d definitions) mayBe(at int, v api.Value) bool {
	return v.Kind == d[at].kind && value.Within(v, d[at].least, d[at].most)
}

// read is what a text says of the setting at a place; false, if that may not be its value.
func (d definitions) read(at int, text string) (api.Value, bool) {
	v, e := value.Parse(d[at].kind, text)
	return v, e == api.OK && d.mayBe(at, v)
}
