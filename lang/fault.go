package lang

import (
	"errors"
	"strconv"

	"arcade/api"
)

// fault is what is wrong with a source: what the call answers, and the place.
type fault struct {
	errno api.Errno
	place int
}

func (f fault) Error() string {
	return "error " + strconv.Itoa(int(f.errno)) + " at " + strconv.Itoa(f.place)
}

// told is what a call answers of what is wrong with a source.
func told(err error) (int, api.Errno) {
	var f fault
	if errors.As(err, &f) {
		return f.place, f.errno
	}
	return 0, api.OK
}
