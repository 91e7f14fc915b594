package ini

import "tinderbox/glyph"

// names are those that the lines so far have given.
type names map[string]struct{}

// add tells whether a line may give that name: one that no line ahead has given.
func (n names) add(name string) bool {
	if _, twice := n[name]; twice || !glyph.IsName(name) {
		return false
	}
	n[name] = struct{}{}
	return true
}
