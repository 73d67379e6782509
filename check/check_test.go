package check_test

import (
	"errors"
	"testing"

	"catchbolt/api"
	"catchbolt/check"
)

// fault and refusal wrap an error.
func fault(at int, err error) error { return &api.Fault{At: at, Err: err} }
func refusal(err error) error       { return &api.Refusal{Tx: 7, Err: err} }

// others are errors that are no plain ErrForm, nor a fault at 3 that wraps it alone.
func others() []error {
	return []error{
		nil, errors.New("other"), api.OK, api.ErrArg, api.ErrDone, api.Errno(16), api.Errno(-1),
		fault(4, api.ErrForm), fault(3, api.ErrFull), fault(3, api.OK), fault(3, errors.New("other")),
		refusal(api.ErrForm), fault(3, refusal(api.ErrForm)), refusal(fault(3, api.ErrForm)),
		errors.Join(api.ErrForm, api.ErrFull), errors.Join(fault(3, api.ErrForm), api.ErrFull),
	}
}

func TestPlain(t *testing.T) {
	for n := api.ErrArg; n <= api.ErrDone; n++ {
		for want := api.ErrArg; want <= api.ErrDone; want++ {
			if check.Plain(n, want) != (n == want) {
				t.Errorf("Plain(%v, %v)", n, want)
			}
		}
	}
	for _, err := range append(others(), fault(3, api.ErrForm)) {
		if check.Plain(err, api.ErrForm) {
			t.Errorf("Plain of %v", err)
		}
	}
}

func TestFault(t *testing.T) {
	if !check.Fault(fault(3, api.ErrForm), 3, api.ErrForm) {
		t.Error("no fault")
	}
	for _, err := range append(others(), api.ErrForm) {
		if check.Fault(err, 3, api.ErrForm) {
			t.Errorf("Fault of %v", err)
		}
	}
}
