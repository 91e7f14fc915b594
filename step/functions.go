package step

import (
	"slices"
	"strconv"
	"strings"

	"tinderbox/api"
	"tinderbox/glyph"
)

// The functions' names.
const (
	double  = "double"
	lower   = "lower"
	reverse = "reverse"
	trim    = "trim"
	upper   = "upper"
)

// names has them all, rising.
var names = [5]string{double, lower, reverse, trim, upper}

// mostDoubled is the greatest number that is doubled.
const mostDoubled = 1 << 31

// function makes a value of another one; false, if it makes none of it.
type function func(value string) (string, bool)

// named is the function of a name; nil, if there is none.
func named(name string) function {
	switch name {
	case double:
		return doubled
	case lower:
		return lowered
	case reverse:
		return reversed
	case trim:
		return trimmed
	case upper:
		return uppered
	}
	return nil
}

func doubled(value string) (string, bool) {
	n, err := strconv.ParseUint(value, 10, 64)
	// A number is written in one way: what is written anew otherwise was none.
	if err != nil || n > mostDoubled || strconv.FormatUint(n, 10) != value {
		return "", false
	}
	return strconv.FormatUint(2*n, 10), true
}

func lowered(value string) (string, bool) {
	return glyph.Fold(value), true
}

func reversed(value string) (string, bool) {
	made := []byte(value)
	slices.Reverse(made)
	return string(made), true
}

func trimmed(value string) (string, bool) {
	return strings.Clone(strings.Trim(value, " \t")), true
}

func uppered(value string) (string, bool) {
	made := []byte(value)
	for i, b := range made {
		if glyph.Class(int(b)) == api.GlyphSmall {
			made[i] = b - 'a' + 'A'
		}
	}
	return string(made), true
}
