package value

import "tinderbox/api"

// unit is how many a unit of a kind stands for.
type unit struct {
	kind   int
	name   string
	stands int
}

// units has those of each kind from the least to the greatest.
var units = [8]unit{
	{api.Size, "", 1},
	{api.Size, "k", 1 << 10},
	{api.Size, "m", 1 << 20},
	{api.Size, "g", 1 << 30},
	{api.Span, "s", 1},
	{api.Span, "m", 60},
	{api.Span, "h", 3600},
	{api.Span, "d", 86400},
}

// unitOf is the unit that n of a kind is printed with.
func unitOf(kind, n int) unit {
	found := unit{stands: 1}
	for _, u := range units {
		// 0 is a multiple of them all, and yet printed with the least one.
		if u.kind == kind && u.stands <= max(n, 1) && n%u.stands == 0 {
			found = u
		}
	}
	return found
}
