package key

import "tinderbox/api"

// netKeys are those of what is told to others.
func netKeys() []api.Key {
	return []api.Key{
		{Name: "net.host", Kind: api.Text, Default: "localhost"},
		{Name: "net.peers", Kind: api.Words, Default: "", Least: 0, Most: 16},
		{Name: "net.port", Kind: api.Int, Default: "8080", Least: 1, Most: 65535, Letter: "p"},
		{Name: "net.timeout", Kind: api.Span, Default: "30s", Least: 1, Most: 3600},
		{Name: "net.url", Kind: api.Text, Default: "http://${net.host}:${net.port}"},
	}
}
