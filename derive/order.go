package derive

import (
	"slices"
	"strings"

	"tinderbox/api"
)

// byTargets are the places of rules, by rising Targets.
func byTargets(l []api.Rule) []int {
	places := make([]int, len(l))
	for at := range places {
		places[at] = at
	}
	slices.SortFunc(places, func(a, b int) int {
		return strings.Compare(l[a].Target, l[b].Target)
	})
	return places
}

// twice: have two rules the same Target? Their places are told by rising Targets.
func twice(l []api.Rule, places []int) bool {
	for i := 1; i < len(places); i++ {
		if l[places[i-1]].Target == l[places[i]].Target {
			return true
		}
	}
	return false
}

// taken are the places of rules that are left, in the order in which they are taken; false, if it comes to a point where none can be. What is left is told by rising Targets, and used up.
func taken(l []api.Rule, left []int) ([]int, bool) {
	var order []int
	for len(left) > 0 {
		i := slices.IndexFunc(left, func(at int) bool { return !waits(l[at], l, left) })
		if i < 0 {
			return nil, false
		}
		order = append(order, left[i])
		left = slices.Delete(left, i, i+1)
	}
	return order, true
}

// waits: is a Need of a rule the Target of one that is left?
func waits(r api.Rule, l []api.Rule, left []int) bool {
	for _, at := range left {
		if slices.Contains(r.Needs, l[at].Target) {
			return true
		}
	}
	return false
}
