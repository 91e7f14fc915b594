package derive

import (
	"tinderbox/api"
	"tinderbox/layer"
)

// hasAll: has x settings of a rule's Target and of its Needs, each of a kind that the rule may reckon with?
func hasAll(x *layer.Settings, r api.Rule) bool {
	target, ok := x.Get(r.Target)
	if !ok || !isNumeric(target) {
		return false
	}
	for _, name := range r.Needs {
		need, ok := x.Get(name)
		if !ok || !mayBeNeeded(need, r.Op) {
			return false
		}
	}
	return true
}

// mayBeNeeded: is a setting of the kind that an operation asks for?
func mayBeNeeded(s api.Setting, op int) bool {
	if op == api.OpCount {
		return s.Value.Kind == api.Words
	}
	return isNumeric(s)
}

func isNumeric(s api.Setting) bool {
	switch s.Value.Kind {
	case api.Int, api.Size, api.Span:
		return true
	}
	return false
}

// run runs a rule on settings that have all that it names; false, if it makes nothing, or what may not be.
func run(r api.Rule, x *layer.Settings) bool {
	target, _ := x.Get(r.Target)
	if target.From != api.FromDefault && target.From != api.FromRule {
		// Somebody gave it.
		return true
	}
	n, ok := operations()[r.Op](numbersOf(r, x))
	return ok && x.Put(r.Target, api.Value{Kind: target.Value.Kind, Int: n}, api.FromRule) == api.OK
}

// numbersOf are those of a rule's needs, in their order, and Add behind them.
func numbersOf(r api.Rule, x *layer.Settings) []int {
	var all []int
	for _, name := range r.Needs {
		need, _ := x.Get(name)
		n := need.Value.Int
		if r.Op == api.OpCount {
			n = len(need.Value.Words)
		}
		all = append(all, n)
	}
	return append(all, r.Add)
}
