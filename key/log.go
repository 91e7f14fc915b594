package key

import "tinderbox/api"

// logKeys are those of what is written down.
func logKeys() []api.Key {
	return []api.Key{
		{Name: "log.file", Kind: api.Text, Default: "${store.dir}/log"},
		{Name: "log.keep", Kind: api.Span, Default: "7d", Least: 1, Most: 2592000},
		{Name: "log.level", Kind: api.Int, Default: "2", Least: 0, Most: 5, Letter: "v"},
	}
}
