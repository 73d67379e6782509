package cluster_test

import (
	"slices"
	"testing"

	"catchbolt/api"
	"catchbolt/check"
	"catchbolt/script"
	"catchbolt/txn"
)

// T1 to T6, of small worlds, and by chance.

// rests are as many calm rounds as the bound is, and some more; if the net refuses nothing, T5 and T6 hold behind these.
func (w *watch) rests(t *testing.T, clients int) bool {
	t.Helper()
	twin := made(t, w.c, clients)
	twin.Run(bytes(t, w.script...))
	lost := w.v.Lost
	for range bound(w.c) {
		if w.calms(t, twin); w.v.Lost != lost {
			return false
		}
	}
	w.tells(t, w.rest())
	for range 5 {
		if w.calms(t, twin); w.v.Lost != lost {
			return false
		}
		w.tells(t, w.rest())
	}
	return true
}

func TestWhole(t *testing.T) {
	reasons, circles, rested := map[int]int{}, 0, 0
	eachRun(15, func(q chance, c api.Config, by *uint64) {
		w := watched(t, c, q.clients)
		for range 300 {
			w.does(t, q.pick(by, w.v))
		}
		for _, x := range w.v.Coord.Txns {
			if txn.Decided(x) {
				reasons[x.Reason]++
			}
			if x.Reason == txn.ByCircle && w.calm {
				circles++
			}
		}
		if q.clients <= 4 && c.Lease < 100 && w.rests(t, q.clients) {
			rested++
		}
	})
	for reason := range 6 {
		if reasons[reason] < 10 {
			t.Errorf("they are decided as %v", reasons)
		}
	}
	if t.Log(reasons, circles, rested); circles < 10 || rested < 150 {
		t.Errorf("%d circles, %d at rest", circles, rested)
	}
}

// window is a fair window: a tick, and all that was on its way at its beginning is delivered, in any order, with others, and with doubles.
func (w *watch) window(t *testing.T, by *uint64) {
	t.Helper()
	marks := slices.Repeat([]bool{true}, len(w.v.Net)) // of those that were on their way at its beginning
	ticked := false
	for !ticked || slices.Contains(marks, true) {
		n, many := check.Next(by)%20, len(marks)
		e := script.Entry{Kind: script.Deliver, Pick: check.Next(by) % max(1, many)}
		switch {
		case !ticked && (n < 3 || many == 0):
			e, ticked = script.Entry{Kind: script.Tick}, true
		case n < 5 && many < 40:
			e.Kind = script.Twice
		default:
			marks = slices.Delete(marks, e.Pick, e.Pick+1)
		}
		w.does(t, e)
		marks = append(marks, make([]bool, len(w.v.Net)-len(marks))...)
	}
}

func TestFairWindows(t *testing.T) {
	rested, lost := 0, 0
	eachRun(6, func(q chance, c api.Config, by *uint64) {
		c.Resend = 1 + c.Resend%5
		c.Lease = max(c.Lease%14, c.Resend+3)
		if q.clients > 4 || q.crashes == 0 {
			return
		}
		w := watched(t, c, q.clients)
		for range 200 {
			w.does(t, q.pick(by, w.v))
		}
		before := w.v.Lost
		for range bound(c) {
			w.window(t, by)
		}
		for range 5 {
			if w.v.Lost != before {
				lost++
				return
			}
			w.tells(t, w.rest())
			w.window(t, by)
		}
		rested++
	})
	if t.Log(rested, lost); rested < 60 {
		t.Errorf("%d at rest, %d with losses", rested, lost)
	}
}
