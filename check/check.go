// Package check tells the tests of all layers which error an answer has, and has the values, the configs, the edges and the messages that they try, and the texts by which they name what is told.
package check

import (
	"errors"

	"catchbolt/api"
)

// Plain says whether an error is that one, and neither a fault nor a refusal.
func Plain(err error, want api.Errno) bool {
	return isNumber(err, want) && !isFault(err) && !isRefusal(err)
}

// Fault says whether an error is a fault at that place, and no refusal, with that one behind it.
func Fault(err error, at int, want api.Errno) bool {
	var f *api.Fault
	return isNumber(err, want) && errors.As(err, &f) && f.At == at && !isRefusal(err)
}

// Refusal says whether an error is a refusal of that resource to that transaction, and no fault, with that one behind it.
func Refusal(err error, tx int, at api.Res, want api.Errno) bool {
	var r *api.Refusal
	return isNumber(err, want) && errors.As(err, &r) && r.Tx == tx && r.At == at && !isFault(err)
}

// isNumber says whether an error is that one of all numbers, and no other one.
func isNumber(err error, want api.Errno) bool {
	for n := api.OK; n <= api.ErrDone; n++ {
		if errors.Is(err, n) != (n == want) {
			return false
		}
	}
	return true
}

// isFault says whether an error is a fault, wherever.
func isFault(err error) bool {
	var f *api.Fault
	return errors.As(err, &f)
}

// isRefusal says whether an error is a refusal, of whatever.
func isRefusal(err error) bool {
	var r *api.Refusal
	return errors.As(err, &r)
}
