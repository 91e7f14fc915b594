package derive

import (
	"tinderbox/api"
	"tinderbox/glyph"
)

// maxAdd is the greatest Add of a rule.
const maxAdd = 1 << 31

func isOperation(op int) bool {
	return op >= api.OpSum && op <= api.OpCount
}

// needsMayBe: has a rule as many needs as its operation takes, and is each of them a name?
func needsMayBe(r api.Rule) bool {
	most := api.MaxNeeds
	if r.Op == api.OpShare {
		most = 1
	}
	if len(r.Needs) == 0 || len(r.Needs) > most {
		return false
	}
	for _, name := range r.Needs {
		if !glyph.IsName(name) {
			return false
		}
	}
	return true
}

func addMayBe(r api.Rule) bool {
	least := -maxAdd
	if r.Op == api.OpShare {
		// It is what is divided by.
		least = 1
	}
	return r.Add >= least && r.Add <= maxAdd
}
