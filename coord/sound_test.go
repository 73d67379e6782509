package coord_test

import (
	"fmt"
	"slices"
	"testing"

	"catchbolt/api"
	"catchbolt/check"
	"catchbolt/coord"
	"catchbolt/txn"
)

// P18.4

// oldest is the number of the least transaction that isn't decided, or 0.
func oldest(v coord.View) int {
	for _, x := range v.Txns {
		if !decided(x) {
			return x.Tx
		}
	}
	return 0
}

// ended are the numbers of the transactions that a trace says are decided; and what of P18.4 it breaks, if anything.
func ended(trace []api.Event) (map[int]api.Event, string) {
	ends, whose := map[int]api.Event{}, map[int]int{} // by transactions, by clients
	for _, e := range trace {
		if _, ok := ends[e.Tx]; ok {
			return ends, fmt.Sprintf("%s, but it was decided", check.Traced([]api.Event{e}))
		}
		switch e.Kind {
		case api.EvBegan:
			if tx := whose[e.Client]; tx != 0 {
				if _, ok := ends[tx]; !ok {
					return ends, fmt.Sprintf("%d has %d, and %d", e.Client, tx, e.Tx)
				}
			}
			whose[e.Client] = e.Tx
		case api.EvCommitted, api.EvAborted:
			ends[e.Tx] = e
		}
	}
	return ends, ""
}

// flaw is what of P18.4 is broken by a move between two views; nothing, if nothing is.
func flaw(before, after coord.View, d move) string {
	ends, broken := ended(after.Trace)
	if broken != "" {
		return broken
	}
	for i, x := range after.Txns {
		e, ok := ends[x.Tx]
		if ok != decided(x) || ok && (e.Kind != x.State+3 || e.Code != x.Reason) {
			return fmt.Sprintf("%s, but the trace says %s", check.Txn(x), check.Traced([]api.Event{e}))
		}
		if i >= len(before.Txns) {
			continue
		}
		was := before.Txns[i]
		if decided(was) && (x.State != was.State || x.Reason != was.Reason) {
			return fmt.Sprintf("%s, but it was %s", check.Txn(x), check.Txn(was))
		}
		if decided(was) || x.Reason != txn.ByWound {
			continue
		}
		by := d.m.Next
		if d.m.Kind != api.KWound || d.m.Tx != x.Tx || by < 1 || by >= x.Tx || decided(before.Txns[by-1]) || x.Tx == oldest(before) {
			return fmt.Sprintf("%s by %s", check.Txn(x), d.text())
		}
	}
	return ""
}

func TestWhatIsBrokenIsFound(t *testing.T) {
	active := func(tx int) txn.Txn { return txn.Txn{Tx: tx, State: 1} }
	over := func(tx, state, reason int) txn.Txn { return txn.Txn{Tx: tx, State: state, Reason: reason} }
	began := []api.Event{{Kind: 1, Client: 1, Tx: 1}, {Kind: 1, Client: 2, Tx: 2}}
	two := coord.View{Last: 2, Txns: []txn.Txn{active(1), active(2)}, Trace: began}
	with := func(x, y txn.Txn, events ...api.Event) coord.View {
		return coord.View{Last: 2, Txns: []txn.Txn{x, y}, Trace: append(slices.Clone(began), events...)}
	}
	wounds := with(active(1), over(2, 4, 3), api.Event{Kind: 7, Tx: 2, Code: 3})
	for i, q := range []struct {
		before, after coord.View
		d             move
		holds         bool
	}{
		{coord.View{}, coord.View{}, tick(), true},
		{two, two, tick(), true},
		{two, with(active(1), active(2), api.Event{Kind: 2, Tx: 1}), tick(), true},
		{two, with(active(1), active(2), api.Event{Kind: 1, Client: 2, Tx: 3}), tick(), false},
		{two, with(over(1, 3, 0), active(2), api.Event{Kind: 6, Tx: 1}, api.Event{Kind: 1, Client: 1, Tx: 3}), tick(), true},
		{two, with(over(1, 3, 0), active(2)), tick(), false},
		{two, with(active(1), active(2), api.Event{Kind: 6, Tx: 1}), tick(), false},
		{two, with(over(1, 3, 0), active(2), api.Event{Kind: 7, Tx: 1}), tick(), false},
		{two, with(over(1, 4, 2), active(2), api.Event{Kind: 7, Tx: 1, Code: 1}), tick(), false},
		{two, with(over(1, 3, 0), active(2), api.Event{Kind: 6, Tx: 1}, api.Event{Kind: 6, Tx: 1}), tick(), false},
		{two, with(over(1, 3, 0), active(2), api.Event{Kind: 6, Tx: 1}, api.Event{Kind: 3, Tx: 1}), tick(), false},
		{with(over(1, 3, 0), active(2)), with(over(1, 4, 1), active(2), api.Event{Kind: 7, Tx: 1, Code: 1}), tick(), false},
		{with(over(1, 4, 5), active(2)), with(over(1, 4, 1), active(2), api.Event{Kind: 7, Tx: 1, Code: 1}), tick(), false},
		{with(over(1, 3, 0), active(2)), with(active(1), active(2)), tick(), false},
		{two, wounds, wounded(1, 2, 1), true},
		{two, wounds, tick(), false},
		{two, wounds, wounded(1, 2, 2), false},
		{two, wounds, wounded(1, 3, 1), false},
		{two, wounds, expired(1, 2), false},
		{with(over(1, 3, 0), active(2)), with(over(1, 3, 0), over(2, 4, 3), api.Event{Kind: 6, Tx: 1}, api.Event{Kind: 7, Tx: 2, Code: 3}), wounded(1, 2, 1), false},
		{two, with(over(1, 4, 3), active(2), api.Event{Kind: 7, Tx: 1, Code: 3}), wounded(1, 1, 2), false},
	} {
		if got := flaw(q.before, q.after, q.d); (got == "") != q.holds {
			t.Errorf("%d: %q", i, got)
		}
	}
}

func TestRunsAreSound(t *testing.T) {
	wrong, n := check.WrongMessages(), 0
	eachRun(24, func(q chance, c api.Config, by *uint64) {
		b, o := opened(t, c, q.clients)
		for range 300 {
			d := q.pick(by, b)
			if b.refusal(d) == api.OK {
				b.does(d) // by which it is known what may well be next
			}
			if n++; n%5 == 0 {
				mayNot(t, o, come(wrong[n%len(wrong)]), api.ErrForm)
			}
			before := o.View()
			told(o, d)
			if broken := flaw(before, o.View(), d); broken != "" {
				t.Errorf("%s: %s, of %s", broken, d.text(), check.Coord(before))
			}
			check.Stop(t)
		}
	})
}

func TestRunsHangOnWhatWasDoneAlone(t *testing.T) {
	eachRun(12, func(q chance, c api.Config, by *uint64) {
		b, one := opened(t, c, q.clients)
		two := made(t, c, q.clients)
		for range 300 {
			d := q.pick(by, b)
			if b.refusal(d) == api.OK {
				b.does(d)
			}
			n, sent, err := told(one, d)
			if k, also, how := told(two, d); n != k || !slices.Equal(sent, also) || (err == nil) != (how == nil) || err != nil && err.Error() != how.Error() {
				t.Errorf("%s = %d, %s, %v, and %d, %s, %v", d.text(), n, check.SentTo(sent), err, k, check.SentTo(also), how)
			}
			check.Stop(t)
		}
		has(t, one, two.View())
	})
}
