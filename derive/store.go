package derive

import "tinderbox/api"

// storeRules are those of what is kept, by rising Targets.
func storeRules() []api.Rule {
	return []api.Rule{
		{Target: "store.page", Needs: []string{"store.cache"}, Op: api.OpShare, Add: 1024},
	}
}
