package store

import (
	"errors"
	"strconv"

	"espalier/api"
)

// What a fault means for the working state.
var (
	errKept = errors.New("nothing has changed")
	errTorn = errors.New("it was left half done")
)

// fault is an error inside the package: it wraps the number that is answered outside.
type fault struct {
	number api.Errno
	means  error
}

func (f fault) Error() string { return f.means.Error() + ", error " + strconv.Itoa(int(f.number)) }

func (f fault) Unwrap() error { return f.means }

// refused is the error of what was not begun; torn of what has ended in its midst.
func refused(e api.Errno) error { return wrapped(e, errKept) }

func torn(e api.Errno) error { return wrapped(e, errTorn) }

func wrapped(e api.Errno, means error) error {
	if e == api.OK {
		return nil
	}
	return fault{number: e, means: means}
}

// number is what is answered outside.
func number(err error) api.Errno {
	var f fault
	if errors.As(err, &f) {
		return f.number
	}
	return api.OK
}
