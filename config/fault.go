package config

import (
	"errors"
	"strconv"

	"triune/api"
)

// fault is an error, and its place.
type fault struct {
	place string
	err   error
}

func (f fault) Error() string { return f.place + ": " + f.err.Error() }
func (f fault) Unwrap() error { return f.err }

// nth is the place of one of a list.
func nth(list string, i int) string { return list + " " + strconv.Itoa(i) }

// number is that of an error, however far inside its places it is.
func number(err error) api.Errno {
	var e api.Errno
	if !errors.As(err, &e) {
		return api.OK
	}
	return e
}
