package compile

import (
	"errors"
	"strconv"

	"quern/api"
)

// refusal is why a pass refuses the text, wrapped with the place of it.
type refusal struct {
	error
	at int
}

func (r refusal) Unwrap() error { return r.error }

// errLong has no number: a fault tells nothing more of a text that is too long.
var errLong = errors.New("a text that is too long")

// limit is the number of the limit that a function has passed.
type limit int

func (l limit) Error() string { return "limit " + strconv.Itoa(int(l)) }

// refused is a layer's error with its place, where there is one.
func refused(why api.Errno, at int) error {
	if why == api.OK {
		return nil
	}
	return refusal{why, at}
}

// faultOf is what is told of a pass's error.
func faultOf(class int, err error) api.Fault {
	f := api.Fault{Class: class}
	var r refusal
	if errors.As(err, &r) {
		f.At = r.at
	}
	var passed limit
	var why api.Errno
	switch {
	case errors.As(err, &passed):
		f.What = int(passed)
	case errors.As(err, &why):
		f.What = int(why)
	}
	return f
}
