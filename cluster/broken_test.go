package cluster_test

import (
	"slices"
	"strings"
	"testing"

	"catchbolt/api"
	"catchbolt/check"
	"catchbolt/cluster"
	"catchbolt/part"
	"catchbolt/shard"
	"catchbolt/txn"
)

// What tells what of T1 to T6 is broken is held against views that are broken by one thing.

// seen is a past that saw a cluster behind each entry of a text but the last one, and the view behind that.
func seen(t *testing.T, c api.Config, text string) (*past, cluster.View) {
	t.Helper()
	k, p := made(t, c, 4), begun(c)
	l := entries(text)
	for i, e := range l {
		if k.Do(e); i < len(l)-1 {
			if broken := p.adds(k.View()); broken != nil {
				t.Errorf("%s: %v", text, broken)
			}
		}
	}
	return p, k.View()
}

// Some scripts.
const (
	holds    = "begin 1, lock 1 1IX, deliver 0, deliver 0, lock 1 1.1X, deliver 0, deliver 0"
	queued   = "begin 2, begin 1, lock 2 1X, deliver 0, deliver 0, lock 1 1X, deliver 0"
	prepared = "begin 1, lock 1 1X, deliver 0, deliver 0, lock 1 2S, deliver 0, deliver 0, commit 1, deliver 0, deliver 0, deliver 0, deliver 0"
	over     = "begin 1, lock 1 1X, deliver 0, deliver 0, abort 1, deliver 0, deliver 0"
	ordered  = "begin 1, begin 2, lock 1 1X, deliver 0, deliver 0, commit 1, deliver 0, deliver 0, deliver 0, deliver 0, lock 2 1X, deliver 0, deliver 0, commit 2, deliver 0, deliver 0"
	wounded  = "begin 2, begin 1, lock 1 1X, deliver 0, deliver 0, lock 2 1X, deliver 0, deliver 0"
	circle   = "begin 1, begin 2, lock 1 1X, deliver 0, deliver 0, lock 2 2X, deliver 0, deliver 0, lock 1 2X, deliver 0, lock 2 1X, deliver 1, deliver 0, deliver 1, deliver 1, deliver 1, deliver 1"
)

// spoiled is a way to break a view.
type spoiled struct {
	probe  bool
	script string
	by     func(v *cluster.View)
	want   string
}

// at is shard 1 of a view.
func at(v *cluster.View) *shard.View { return &v.Shards[0] }

// event adds an event to a view's trace.
func event(v *cluster.View, e api.Event) { v.Coord.Trace = append(v.Coord.Trace, e) }

// lock is a lock that a transaction has.
func lock(tx int, text string, m api.Mode) api.Grant {
	return api.Grant{Tx: tx, At: check.At(text), Mode: m}
}

// breaks are ways to break what T1 to T4 say.
func breaks() []spoiled {
	return []spoiled{
		{false, holds, func(v *cluster.View) { v.Coord.Trace = v.Coord.Trace[1:] }, "T1"},
		{false, holds, func(v *cluster.View) { v.Coord.Trace[1].Mode++ }, "T1"},
		{false, holds, func(v *cluster.View) { event(v, api.Event{Kind: api.EvCrashed}) }, "T1"},
		{false, holds, func(v *cluster.View) { v.Net = make([]api.Msg, 101) }, "T2"},
		{false, holds, func(v *cluster.View) { at(v).Held = append(at(v).Held, lock(2, "1", api.S)) }, "T2"},
		{false, holds, func(v *cluster.View) { at(v).Held = append(at(v).Held, lock(1, "1", api.IX)) }, "T2"},
		{false, holds, func(v *cluster.View) { at(v).Held = at(v).Held[1:] }, "T2"},
		{false, holds, func(v *cluster.View) { at(v).Held[0].Mode = api.IS }, "T2"},
		{false, holds, func(v *cluster.View) { at(v).Held[0].At.Table = 5 }, "T2"},
		{false, holds, func(v *cluster.View) { at(v).Held[1].Mode = api.IS }, "T2"},
		{false, holds, func(v *cluster.View) { at(v).Held[1].Tx = 2 }, "T2"},
		{false, holds, func(v *cluster.View) { at(v).Waits = make([]api.Grant, 4095) }, "T2"},
		{false, queued, func(v *cluster.View) { v.Shards[1].Waits = at(v).Waits }, "T2"},
		{false, queued, func(v *cluster.View) {
			for tx := range 64 {
				at(v).Waits = append(at(v).Waits, lock(10+tx, "1", api.X))
			}
		}, "T2"},
		{false, over, func(v *cluster.View) { at(v).Held = []api.Grant{lock(1, "1", api.X)} }, "T2"},
		{false, over, func(v *cluster.View) { at(v).Waits = []api.Grant{lock(1, "1", api.X)} }, "T2"},
		{false, over, func(v *cluster.View) { at(v).Leases = []int{1} }, "T2"},
		{false, over, func(v *cluster.View) { at(v).Book = []int{1} }, "T2"},
		{false, holds, func(v *cluster.View) { at(v).Log = at(v).Log[1:] }, "T3"},
		{false, holds, func(v *cluster.View) { at(v).Log[0].Seq++ }, "T3"},
		{false, holds, func(v *cluster.View) { at(v).States[0].State = part.Committed }, "T3"},
		{false, holds, func(v *cluster.View) { at(v).States[0].State = part.Aborted }, "T3"},
		{false, over, func(v *cluster.View) { at(v).States[0].State = part.Committed }, "T3"},
		{false, over, func(v *cluster.View) { at(v).Log = append(at(v).Log, lock(1, "1", api.X)) }, "T3"},
		{false, over, func(v *cluster.View) { event(v, api.Event{Kind: api.EvAborted, Tx: 1, Code: 1}) }, "T3"},
		{false, prepared, func(v *cluster.View) { v.Shards[1].States = nil }, "T3"},
		{false, prepared, func(v *cluster.View) { v.Shards[1].States[0].State = part.Active }, "T3"},
		{false, prepared, func(v *cluster.View) { v.Shards[1].States[0].State = part.Committed }, "T3"},
		{false, prepared, func(v *cluster.View) { v.Shards[1].States[0].State = part.Expired }, "T3"},
		{false, prepared, func(v *cluster.View) { v.Coord.Txns[0].Votes = []int{1} }, "T3"},
		{false, prepared, func(v *cluster.View) { v.Shards[1].Held = nil }, "T3"},
		{false, prepared, func(v *cluster.View) { v.Shards[1].Held[0].Mode = api.IS }, "T3"},
		{false, wounded, func(v *cluster.View) { v.Coord.Trace[len(v.Coord.Trace)-1].Tx = 1 }, "T4"},
		{true, holds, func(v *cluster.View) { event(v, api.Event{Kind: api.EvAborted, Tx: 1, Code: 3}) }, "T4"},
		{false, queued, func(v *cluster.View) { event(v, api.Event{Kind: api.EvAborted, Tx: 1, Code: 3}) }, "T4"},
		{false, queued, func(v *cluster.View) { event(v, api.Event{Kind: api.EvAborted, Tx: 2, Code: 3}) }, "T4"},
		{false, holds, func(v *cluster.View) { event(v, api.Event{Kind: api.EvAborted, Tx: 1, Code: 4}) }, "T4"},
		{true, queued, func(v *cluster.View) { event(v, api.Event{Kind: api.EvAborted, Tx: 1, Code: 4}) }, "T4"},
		{false, wounded, func(v *cluster.View) { v.Coord.Trace[len(v.Coord.Trace)-1].Code = 4 }, "T4"},
	}
}

// broken says whether one of those texts begins with the promise's name.
func broken(l []string, name string) bool {
	return slices.ContainsFunc(l, func(text string) bool { return strings.HasPrefix(text, name+": ") })
}

func TestWhatIsBrokenIsFound(t *testing.T) {
	for i, q := range breaks() {
		c := check.Roomy(q.probe)
		p, v := seen(t, c, q.script)
		if all := p.adds(v); all != nil {
			t.Errorf("%d: %v, of\n%s", i, all, text(v))
		}
		p, v = seen(t, c, q.script)
		if q.by(&v); !broken(p.adds(v), q.want) {
			t.Errorf("%d: not %s, of\n%s", i, q.want, text(v))
		}
	}
}

func TestLogNotInOrder(t *testing.T) {
	p, v := seen(t, check.Roomy(false), ordered)
	p.adds(v)
	p.was = v
	if all := p.logged(0); all != nil {
		t.Errorf("%v, of\n%s", all, text(v))
	}
	if slices.Reverse(at(&v).Log); !broken(p.logged(0), "T3") {
		t.Errorf("not T3, of\n%s", text(v))
	}
}

// Of T4 with probes it counts what was ahead: where a lease ended, or a client aborted or crashed, a victim may have been on no circle.
func TestVictimsBehindWhatIsNotCalm(t *testing.T) {
	c := check.Roomy(true)
	c.Lease = 2
	for text, want := range map[string]bool{
		queued + ", begin 3":                  true,
		queued + ", begin 3, abort 3":         false,
		queued + ", crash 3":                  false,
		queued + ", tick, tick":               false,
		queued + ", begin 3, commit 3, tick":  true,
		queued + ", begin 3, abort 2, tick":   false,
		queued + ", tick, begin 3, commit 3 ": true,
	} {
		p, v := seen(t, c, strings.TrimSpace(text)+", deliver 0")
		if event(&v, api.Event{Kind: api.EvAborted, Tx: 2, Code: 4}); broken(p.adds(v), "T4") != want {
			t.Errorf("%s: %v", text, want)
		}
	}
}

// restless are ways to break what T5 and T6 say.
func restless() []spoiled {
	return []spoiled{
		{true, queued, func(v *cluster.View) { at(v).Edges = []api.Edge{{From: 1, To: 2}, {From: 2, To: 1}} }, "T5"},
		{true, queued, func(v *cluster.View) {
			at(v).Edges, v.Shards[1].Edges = []api.Edge{{From: 1, To: 2}}, []api.Edge{{From: 2, To: 1}}
		}, "T5"},
		{true, over, func(v *cluster.View) { v.Coord.Txns[0].Acks = nil }, "T6"},
		{true, over, func(v *cluster.View) { at(v).Book = []int{1} }, "T6"},
		{true, over, func(v *cluster.View) { v.Coord.Txns[0].State = txn.Preparing }, "T6"},
		{true, queued, func(v *cluster.View) { at(v).Waits = nil }, "T6"},
		{true, queued, func(v *cluster.View) { at(v).Waits[0].Tx++ }, "T6"},
		{true, queued, func(v *cluster.View) { at(v).Waits[0].Seq++ }, "T6"},
		{true, queued, func(v *cluster.View) { at(v).Waits[0].At.Row++ }, "T6"},
		{true, queued, func(v *cluster.View) { v.Shards[1].Waits, at(v).Waits = at(v).Waits, nil }, "T6"},
		{true, queued, func(v *cluster.View) { event(v, api.Event{Kind: api.EvCrashed, Client: 1}) }, "T6"},
		{false, queued, func(v *cluster.View) { at(v).Edges = []api.Edge{{From: 1, To: 2}} }, "T6"},
	}
}

func TestWhatIsLeftIsFound(t *testing.T) {
	for i, q := range restless() {
		p, v := seen(t, check.Roomy(q.probe), q.script)
		p.adds(v)
		if all := p.rest(); all != nil {
			t.Errorf("%d: %v, of\n%s", i, all, text(v))
		}
		q.by(&v)
		p.v = v
		if all := p.rest(); !broken(all, q.want) {
			t.Errorf("%d: not %s, but %v, of\n%s", i, q.want, all, text(v))
		}
	}
}

func TestCirclesOfWhomNoneIsAborted(t *testing.T) {
	p, v := seen(t, check.Roomy(true), circle)
	if p.adds(v); broken(p.rest(), "T5") || len(p.circles) != 1 {
		t.Errorf("%v, of\n%s", p.rest(), text(v))
	}
	if v.Coord.Txns[1].State = txn.Committed; !broken(p.rest(), "T5") {
		t.Errorf("%v, of\n%s", p.rest(), text(v))
	}
}
