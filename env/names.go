package env

import (
	"strings"

	"tinderbox/api"
	"tinderbox/key"
)

const (
	point = "."
	joint = "_"
)

// called is what a name is called in an environment.
func called(name string) string {
	return strings.ReplaceAll(strings.ToUpper(name), point, joint)
}

// names are what the settings of a set, and their first parts, are called.
type names struct {
	settings map[string]api.Key
	firsts   map[string]struct{}
}

func namesOf(s *key.Set) names {
	known := names{settings: map[string]api.Key{}, firsts: map[string]struct{}{}}
	for _, k := range s.All() {
		first, _, _ := strings.Cut(k.Name, point)
		known.settings[called(k.Name)] = k
		known.firsts[called(first)] = struct{}{}
	}
	return known
}

// speaksOfThem tells whether a name begins with what a first part is called, and a joint. No part has a joint within it, so that is what stands ahead of the name's first one.
func (n names) speaksOfThem(name string) bool {
	first, _, joined := strings.Cut(name, joint)
	_, ok := n.firsts[first]
	return joined && ok
}
