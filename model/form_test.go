package model_test

import (
	"math"
	"slices"
	"testing"

	"catchbolt/api"
	"catchbolt/check"
	"catchbolt/model"
)

// P20.1: ErrForm.

// with is an event with another number in a field.
func with(e api.Event, f field, n int) api.Event {
	*f.of(&e) = n
	return e
}

// around are numbers at, around and far beyond the edges of a field of a kind.
func around(kind int, f field) []int {
	low, high := edges(kind, f)
	l := []int{low - 1, low, low + 1, 0, 1, 2, 3, 4, 5, 6, 8, 9, 15, 16, 250, 251, high - 1, high}
	if high < math.MaxInt {
		l = append(l, high+1)
		return append(l, check.FarFrom(low, high)...)
	}
	for shift := range 63 {
		l = append(l, 1<<shift, -1<<shift, 1<<shift+1)
	}
	return append(l, math.MinInt, math.MinInt+1)
}

// formed checks of an event, by itself and behind others that may be, whether its form is what keeps it from coming.
func formed(t *testing.T, e api.Event, want bool) {
	t.Helper()
	first := trace("began 1 client 1, asked 1 3S")
	for place, l := range [][]api.Event{{e}, append(first[:1:1], e), append(first[:2:2], e)} {
		err := model.Check(l)
		if wrong := check.Fault(err, place, api.ErrForm); wrong == want || err != nil && !wrong && !check.Fault(err, place, api.ErrState) {
			t.Errorf("Check(%s) = %s", check.Traced(l), told(err))
		}
	}
}

func TestFormsOfEachKind(t *testing.T) {
	for _, e := range ones() {
		formed(t, e, true)
		for _, f := range fields {
			low, high := edges(e.Kind, f)
			for _, n := range around(e.Kind, f) {
				formed(t, with(e, f, n), n >= low && n <= high)
			}
		}
		check.Stop(t)
	}
}

func TestFormsOfKindsThatAreNone(t *testing.T) {
	for _, kind := range append(check.FarFrom(1, 8), 0, 9, -1, 10) {
		formed(t, api.Event{Kind: kind}, false)
		for _, e := range ones() {
			e.Kind = kind
			formed(t, e, false)
		}
	}
}

func TestFormsByAnyTwoFields(t *testing.T) {
	many := map[bool]int{}
	for kind := 0; kind <= 9; kind++ {
		for _, one := range append(ones(), api.Event{}) {
			one.Kind = kind
			for i, f := range fields {
				for _, g := range fields[:i] {
					for _, n := range []int{-1, 0, 1, 5, 6, 8, 9, 250, 251} {
						for _, k := range []int{-1, 0, 1, 4, 5, 6, 15, 16, 251} {
							e := with(with(one, f, n), g, k)
							formed(t, e, isForm(e))
							many[isForm(e)]++
						}
					}
				}
				check.Stop(t)
			}
		}
	}
	if many[true] < 1000 || many[false] < 10000 {
		t.Error(many)
	}
}

func TestFormsOfReasonsAndCodes(t *testing.T) {
	for code := -1; code <= 17; code++ {
		formed(t, api.Event{Kind: refused, Tx: 1, At: check.At("3"), Code: code}, code >= 1 && code <= 15)
		formed(t, api.Event{Kind: aborted, Tx: 1, Code: code}, code >= 1 && code <= 5)
		formed(t, api.Event{Kind: committed, Tx: 1, Code: code}, code == 0)
		formed(t, api.Event{Kind: granted, Tx: 1, At: check.At("3"), Mode: api.S, Code: code}, code == 0)
	}
}

func TestFormsOfResources(t *testing.T) {
	for _, at := range check.WrongResources() {
		formed(t, api.Event{Kind: asked, Tx: 1, At: at, Mode: api.S}, false)
		formed(t, api.Event{Kind: granted, Tx: 1, At: at, Mode: api.S}, false)
		formed(t, api.Event{Kind: refused, Tx: 1, At: at, Code: 9}, false)
		formed(t, api.Event{Kind: finish, Tx: 1, At: at}, at == api.Res{})
	}
	for _, text := range []string{"1", "250", "1.1", "250.250", "3.250"} {
		formed(t, api.Event{Kind: asked, Tx: 1, At: check.At(text), Mode: api.S}, true)
		formed(t, api.Event{Kind: granted, Tx: 1, At: check.At(text), Mode: api.S}, true)
		formed(t, api.Event{Kind: refused, Tx: 1, At: check.At(text), Code: 9}, true)
		formed(t, api.Event{Kind: finish, Tx: 1, At: check.At(text)}, false)
	}
}

// A row may be locked as S and X alone, but that isn't of an event's form.
func TestFormsOfModes(t *testing.T) {
	for _, at := range []string{"3", "3.14"} {
		for _, kind := range []int{asked, granted} {
			for _, m := range check.Modes() {
				formed(t, api.Event{Kind: kind, Tx: 1, At: check.At(at), Mode: m}, true)
			}
			for _, m := range check.WrongModes() {
				formed(t, api.Event{Kind: kind, Tx: 1, At: check.At(at), Mode: m}, false)
			}
		}
	}
}

// wrongs are events whose forms may not be, each by one thing, which behind some traces might come next but for that.
func wrongs() []api.Event {
	var l []api.Event
	for _, e := range ones() {
		e.Client = min(e.Client, 1)
		e.Tx = min(e.Tx, 1)
		for _, f := range fields {
			low, high := edges(e.Kind, f)
			if high < math.MaxInt {
				l = append(l, with(e, f, high+1))
			}
			l = append(l, with(e, f, low-1))
		}
	}
	return slices.DeleteFunc(l, isForm)
}

func TestFormAheadOfState(t *testing.T) {
	for _, text := range []string{
		"", "began 1 client 1", "began 1 client 1, asked 1 3.14X", "began 1 client 1, asked 1 3X", "began 1 client 1, asked 1 3X, granted 1 3X, finish 1",
		"began 1 client 1, asked 1 3X, granted 1 3X, finish 1, committed 1", "began 1 client 1, aborted 1 3", "crashed client 1",
	} {
		l := trace(text)
		for _, e := range wrongs() {
			breaks(t, append(l[:len(l):len(l)], e), len(l), api.ErrForm)
			for _, then := range behind() {
				breaks(t, append(l[:len(l):len(l)], e, then), len(l), api.ErrForm)
			}
		}
		check.Stop(t)
	}
}
