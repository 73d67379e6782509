// Package mode is layer 1: how resources are locked. See shared/doc/01-mode.md.
package mode

import "catchbolt/api"

// set has modes: one bit for each.
type set uint8

// with is the set, and one more mode in it.
func (s set) with(m api.Mode) set { return s | 1<<m }

// has says whether a mode is in the set. A number that is no mode never is, and is not shifted by: of one below 0 that would panic.
func (s set) has(m api.Mode) bool { return Ok(m) && s>>m&1 == 1 }

// below are the modes that a mode covers, itself among them; of a number that is no mode none.
func below(m api.Mode) set {
	var s set
	switch m {
	case api.X:
		s = s.with(api.S).with(api.IX)
		fallthrough
	case api.S, api.IX: // neither covers the other one: below both is the same
		s = s.with(api.IS)
		fallthrough
	case api.IS:
		s = s.with(api.None)
		fallthrough
	case api.None:
		s = s.with(m)
	}
	return s
}

// beside are the modes with which a mode goes together: the lower it is, the more of them; of a number that is no mode none.
func beside(m api.Mode) set {
	var s set
	switch m {
	case api.None:
		s = s.with(api.X)
		fallthrough
	case api.IS:
		s = s.with(api.S).with(api.IX)
		fallthrough
	case api.S, api.IX: // each goes with itself, and not with the other one
		s = s.with(api.IS).with(m)
		fallthrough
	case api.X:
		s = s.with(api.None)
	}
	return s
}

// Ok says whether a number is a mode.
func Ok(m api.Mode) bool { return below(m) != 0 }

// Together says whether two modes go together.
func Together(a, b api.Mode) bool { return beside(a).has(b) }

// Covers says whether a mode covers another one.
func Covers(a, b api.Mode) bool { return below(a).has(b) }

// Least is the least above two modes.
func Least(a, b api.Mode) (api.Mode, error) {
	switch {
	case !Ok(a), !Ok(b):
		return api.None, api.ErrArg
	case Covers(a, b):
		return a, nil
	case Covers(b, a):
		return b, nil
	}
	return api.X, nil // one is IX, the other S: X alone covers both
}

// Need is what a row's mode needs of its table.
func Need(m api.Mode) (api.Mode, error) {
	switch m {
	case api.None:
		return api.None, nil
	case api.S:
		return api.IS, nil
	case api.X:
		return api.IX, nil
	case api.IS, api.IX:
		return api.None, api.ErrMode
	}
	return api.None, api.ErrArg
}
