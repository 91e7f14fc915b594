package derive

import "tinderbox/api"

// bootRules are those of the start, by rising Targets.
func bootRules() []api.Rule {
	return []api.Rule{
		{Target: "boot.limit", Needs: []string{"boot.workers"}, Op: api.OpTimes, Add: 16},
		{Target: "boot.workers", Needs: []string{"boot.services"}, Op: api.OpCount, Add: 1},
	}
}
