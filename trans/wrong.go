package trans

import (
	"errors"

	"patchbay/api"
)

// wrong is what is wrong, and where; it wraps the number of the error.
type wrong struct{ fail api.Fail }

func (w wrong) Error() string { return "trans: " + w.fail.Err.Error() }

// Unwrap is what errors.As finds the number by.
func (w wrong) Unwrap() error { return w.fail.Err }

// somewhere is the error of a fail; none, if that is none.
func somewhere(f api.Fail) error {
	if f.Err == api.OK {
		return nil
	}
	return wrong{f}
}

// nowhere is an error without a place.
func nowhere(e api.Errno) error { return somewhere(api.Fail{Err: e}) }

// failOf is the fail of an error.
func failOf(err error) api.Fail {
	var w wrong
	if errors.As(err, &w) {
		return w.fail
	}
	return api.Fail{}
}

// numberOf is the number of an error.
func numberOf(err error) api.Errno {
	var e api.Errno
	if errors.As(err, &e) {
		return e
	}
	return api.OK
}
