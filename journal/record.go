package journal

import (
	"strings"

	"tinderbox/api"
)

// lengthBytes are those by which a record's length stands ahead of it.
const lengthBytes = 2

// takes is how many bytes of an area a record takes.
func takes(s string) int {
	return lengthBytes + len(s)
}

// recordBytes are the bytes that it takes.
func recordBytes(s string) string {
	return numberBy(lengthBytes, len(s)) + s
}

// recordsIn are the records that stand in bytes, one behind the other; false, if something else stands there.
func recordsIn(s string) ([]string, bool) {
	var all []string
	for s != "" {
		if len(s) < lengthBytes {
			return nil, false
		}
		length := numberOf(s[:lengthBytes])
		s = s[lengthBytes:]
		if length > min(len(s), api.MaxRecord) {
			return nil, false
		}
		// A copy: a short record does not hold the bytes of all others.
		all = append(all, strings.Clone(s[:length]))
		s = s[length:]
	}
	return all, true
}
