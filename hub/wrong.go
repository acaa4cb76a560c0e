package hub

import (
	"errors"

	"patchbay/api"
)

// The texts that an error may be of.
const (
	inText = iota
	inMore
	inTranslation
)

// wrong is what is wrong, where, and in which text; it wraps the number of the error.
type wrong struct {
	fail api.Fail
	in   int
}

func (w wrong) Error() string { return "hub: " + w.fail.Err.Error() }

// Unwrap is what errors.As finds the number by.
func (w wrong) Unwrap() error { return w.fail.Err }

// failIn is the error of a fail in a text; none, if that is none.
func failIn(in int, f api.Fail) error {
	if f.Err == api.OK {
		return nil
	}
	return wrong{fail: f, in: in}
}

// number is an error without a place; none, if that is none.
func number(e api.Errno) error {
	if e == api.OK {
		return nil
	}
	return e
}

// toldOf is what is told of an error.
func toldOf(err error) Told {
	var w wrong
	if errors.As(err, &w) {
		return Told{Fail: w.fail, In: w.in}
	}
	var e api.Errno
	if errors.As(err, &e) {
		return Told{Fail: api.Fail{Err: e}}
	}
	return Told{}
}
