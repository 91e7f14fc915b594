package key

import "tinderbox/api"

// storeAndBootKeys are those of what is kept, and of the start.
func storeAndBootKeys() []api.Key {
	return []api.Key{
		{Name: "store.blocks", Kind: api.Int, Default: "64", Least: 8, Most: 4096, Letter: "b"},
		{Name: "store.cache", Kind: api.Size, Default: "4m", Least: 0, Most: 1073741824, Letter: "c"},
		{Name: "store.dir", Kind: api.Text, Default: "/var/tinder", Letter: "d"},
		{Name: "store.page", Kind: api.Size, Default: "4k", Least: 512, Most: 65536},
		{Name: "boot.dry", Kind: api.Bool, Default: "false", Letter: "n"},
		{Name: "boot.limit", Kind: api.Int, Default: "0", Least: 0, Most: 1024},
		{Name: "boot.services", Kind: api.Words, Default: "log,net", Least: 0, Most: 16, Letter: "s"},
		{Name: "boot.workers", Kind: api.Int, Default: "0", Least: 0, Most: 64, Letter: "w"},
	}
}
