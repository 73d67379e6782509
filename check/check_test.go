package check_test

import (
	"errors"
	"testing"

	"catchbolt/api"
	"catchbolt/check"
)

// fault and refusal wrap an error.
func fault(at int, err error) error { return &api.Fault{At: at, Err: err} }
func refusal(err error) error       { return &api.Refusal{Tx: 7, Err: err} }

// others are errors that are no plain ErrForm, nor a fault at 3 that wraps it alone.
func others() []error {
	return []error{
		nil, errors.New("other"), api.OK, api.ErrArg, api.ErrDone, api.Errno(16), api.Errno(-1),
		fault(4, api.ErrForm), fault(3, api.ErrFull), fault(3, api.OK), fault(3, errors.New("other")),
		refusal(api.ErrForm), fault(3, refusal(api.ErrForm)), refusal(fault(3, api.ErrForm)),
		errors.Join(api.ErrForm, api.ErrFull), errors.Join(fault(3, api.ErrForm), api.ErrFull),
	}
}

func TestPlain(t *testing.T) {
	for n := api.ErrArg; n <= api.ErrDone; n++ {
		for want := api.ErrArg; want <= api.ErrDone; want++ {
			if check.Plain(n, want) != (n == want) {
				t.Errorf("Plain(%v, %v)", n, want)
			}
		}
	}
	for _, err := range append(others(), fault(3, api.ErrForm)) {
		if check.Plain(err, api.ErrForm) {
			t.Errorf("Plain of %v", err)
		}
	}
}

func TestFault(t *testing.T) {
	if !check.Fault(fault(3, api.ErrForm), 3, api.ErrForm) {
		t.Error("no fault")
	}
	for _, err := range append(others(), api.ErrForm) {
		if check.Fault(err, 3, api.ErrForm) {
			t.Errorf("Fault of %v", err)
		}
	}
}

// outside says whether a number is none from 1 on to a greatest one.
func outside(n, most int) bool { return n < 1 || n > most }

// eachOutside checks that all numbers of a list are outside, or that none is.
func eachOutside(t *testing.T, l []int, most int, want bool) {
	t.Helper()
	for _, n := range l {
		if outside(n, most) != want {
			t.Errorf("%d of 1 to %d", n, most)
		}
	}
}

// asNumbers are modes as numbers.
func asNumbers(l []api.Mode) []int {
	var n []int
	for _, m := range l {
		n = append(n, int(m))
	}
	return n
}

func TestValues(t *testing.T) {
	eachOutside(t, check.WrongLimits(), api.MaxQueue, true)
	eachOutside(t, check.Numbers(), api.MaxTx, false)
	eachOutside(t, check.WrongNumbers(), api.MaxTx, true)
	eachOutside(t, asNumbers(check.Modes()), int(api.X), false)
	eachOutside(t, asNumbers(check.WrongModes()), int(api.X), true)
}
