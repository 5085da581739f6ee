package saves

import (
	"errors"
	"strconv"

	"arcade/api"
)

// What may be wrong inside.
var (
	errNone   = errors.New("there is no such save")
	errFull   = errors.New("no room is left")
	errBroken = errors.New("the store is broken")
	errDead   = errors.New("the store has refused a write")
)

// fault is one of these errors, with the sector of the store at which it was found.
type fault struct {
	err    error
	sector int
	why    string
}

func (f fault) Error() string {
	return f.err.Error() + " at sector " + strconv.Itoa(f.sector) + ": " + f.why
}

func (f fault) Unwrap() error {
	return f.err
}

// errno is what a call answers of what is wrong inside.
func errno(err error) api.Errno {
	switch {
	case errors.Is(err, errNone):
		return api.ErrSaveNone
	case errors.Is(err, errFull):
		return api.ErrSaveFull
	case errors.Is(err, errBroken):
		return api.ErrSaveBroken
	case errors.Is(err, errDead):
		return api.ErrSaveDead
	}
	return api.OK
}
