package step

import (
	"cmp"
	"slices"
	"strings"

	"tinderbox/api"
	"tinderbox/glyph"
)

func isValue(s string) bool {
	return len(s) <= api.MaxValue
}

func mayBe(p api.Pair) bool {
	return glyph.IsWord(p.Table) && glyph.IsWord(p.Key) && isValue(p.Value)
}

func byTableAndKey(a, b api.Pair) int {
	return cmp.Or(strings.Compare(a.Table, b.Table), strings.Compare(a.Key, b.Key))
}

func arePairs(l []api.Pair) bool {
	if len(l) > api.MaxPairs {
		return false
	}
	// The empty one stands ahead of all that may be.
	var last api.Pair
	for _, p := range l {
		if !mayBe(p) || byTableAndKey(last, p) >= 0 {
			return false
		}
		last = p
	}
	return true
}

// find is the place of the pair of a table and a key; below 0, if there is none.
func find(l []api.Pair, table, key string) int {
	return slices.IndexFunc(l, func(p api.Pair) bool { return p.Table == table && p.Key == key })
}

// hasTable: is there a pair of a table?
func hasTable(l []api.Pair, table string) bool {
	return slices.ContainsFunc(l, func(p api.Pair) bool { return p.Table == table })
}

// cloneTexts lets pairs have texts of their own: those that were handed in are not kept.
func cloneTexts(l []api.Pair) {
	for i, p := range l {
		l[i] = api.Pair{Table: strings.Clone(p.Table), Key: strings.Clone(p.Key), Value: strings.Clone(p.Value)}
	}
}
