package codec

import (
	"errors"
	"strconv"

	"tinderbox/api"
)

// fault is an error that knows its number.
type fault struct {
	errno api.Errno
}

func (f fault) Error() string {
	return "codec: error " + strconv.Itoa(int(f.errno))
}

// errnoOf is the number of an error, OK of none.
func errnoOf(err error) api.Errno {
	var found fault
	if errors.As(err, &found) {
		return found.errno
	}
	return api.OK
}
