package cluster_test

import (
	"fmt"
	"slices"
	"testing"

	"catchbolt/api"
	"catchbolt/check"
	"catchbolt/cluster"
	"catchbolt/graph"
	"catchbolt/mode"
	"catchbolt/model"
	"catchbolt/part"
	"catchbolt/script"
	"catchbolt/shard"
	"catchbolt/txn"
)

// T1 to T6, the document's promises of the whole: what of them is broken is told by texts, each of which begins with the promise's name.

// past is what a cluster had behind its last entry, and ahead of it; and what is known of all that was.
type past struct {
	c       api.Config
	was, v  cluster.View
	waited  map[[2]int]bool  // who ever waited for whom
	circles map[string][]int // all circles that there ever were, by their texts
	calm    bool             // no lease ended, no client crashed, none aborted
}

// begun is the past of a cluster in which nothing happened.
func begun(c api.Config) *past {
	v := cluster.View{Shards: make([]shard.View, c.Shards)}
	return &past{c: c, v: v, waited: map[[2]int]bool{}, circles: map[string][]int{}, calm: true}
}

// adds takes what the cluster has behind one more entry: what is broken by that.
func (p *past) adds(v cluster.View) []string {
	p.was, p.v = p.v, v
	if broken := p.grows(); broken != nil {
		return broken
	}
	p.keep()
	all := slices.Concat(p.rooms(), p.applied(), p.left())
	if err := model.Check(v.Coord.Trace); err != nil {
		all = append(all, "T1: "+err.Error())
	}
	for i, s := range v.Shards {
		all = slices.Concat(all, locks(s), p.logged(i))
	}
	for _, e := range v.Coord.Trace[len(p.was.Coord.Trace):] {
		all = slices.Concat(all, p.decided(e), p.victim(e))
	}
	return all
}

// grows tells what of the trace or of a log isn't there any more.
func (p *past) grows() []string {
	if n := len(p.was.Coord.Trace); len(p.v.Coord.Trace) < n || !slices.Equal(p.v.Coord.Trace[:n], p.was.Coord.Trace) {
		return []string{"T1: the trace is another one"}
	}
	for i, s := range p.was.Shards {
		if n := len(s.Log); len(p.v.Shards[i].Log) < n || !slices.Equal(p.v.Shards[i].Log[:n], s.Log) {
			return []string{"T3: the log is another one"}
		}
	}
	return nil
}

// edges are those of all shards.
func (p *past) edges() []api.Edge {
	var all []api.Edge
	for _, s := range p.v.Shards {
		all = append(all, s.Edges...)
	}
	return all
}

// keep keeps what is to be known of what was.
func (p *past) keep() {
	l := p.edges()
	for _, e := range l {
		p.waited[[2]int{e.From, e.To}] = true
	}
	for _, one := range check.Circles(l) {
		p.circles[fmt.Sprint(one)] = one
	}
	for _, s := range p.v.Shards {
		for _, one := range s.States {
			p.calm = p.calm && one.State != part.Expired
		}
	}
	for _, e := range p.v.Coord.Trace {
		byLease := e.Kind == api.EvAborted && (e.Code == txn.ByClient || e.Code == txn.ByLease)
		p.calm = p.calm && e.Kind != api.EvCrashed && !byLease
	}
}

// rooms tell where there are more than there is room for, and who waits twice.
func (p *past) rooms() []string {
	var all []string
	if len(p.v.Net) > p.c.Flight {
		all = append(all, "T2: the net has too many")
	}
	waits := map[int]int{}
	for i, s := range p.v.Shards {
		lines := map[api.Res]int{}
		for _, g := range s.Waits {
			lines[g.At]++
			if waits[g.Tx]++; waits[g.Tx] > 1 || lines[g.At] > p.c.Queue {
				all = append(all, fmt.Sprintf("T2: %d waits twice, or the line is too long, at shard %d", g.Tx, i+1))
			}
		}
		if len(s.Held)+len(s.Waits) > p.c.Slots {
			all = append(all, fmt.Sprintf("T2: shard %d has more than it has slots", i+1))
		}
	}
	return all
}

// locks tell which locks of a shard don't go together, and which rows are locked without their tables.
func locks(s shard.View) []string {
	var all []string
	for i, g := range s.Held {
		for _, h := range s.Held[:i] {
			if g.At == h.At && (g.Tx == h.Tx || !mode.Together(g.Mode, h.Mode)) {
				all = append(all, "T2: "+check.Granted([]api.Grant{h, g}))
			}
		}
		need, err := mode.Need(g.Mode)
		covers := func(h api.Grant) bool {
			return h.Tx == g.Tx && h.At == api.Res{Table: g.At.Table} && mode.Covers(h.Mode, need)
		}
		if g.At.Row > 0 && (err != nil || !slices.ContainsFunc(s.Held, covers)) {
			all = append(all, "T2: "+check.Granted([]api.Grant{g})+" without its table")
		}
	}
	return all
}

// state is a transaction's at a shard.
func state(s shard.View, tx int) int {
	for _, one := range s.States {
		if one.Tx == tx {
			return one.State
		}
	}
	return part.Fresh
}

// something says whether a shard has something of a transaction.
func something(s shard.View, tx int) bool {
	its := func(g api.Grant) bool { return g.Tx == tx }
	return slices.Contains(s.Leases, tx) || slices.Contains(s.Book, tx) || slices.ContainsFunc(s.Held, its) || slices.ContainsFunc(s.Waits, its)
}

// applied tells at which shards it isn't applied what was decided.
func (p *past) applied() []string {
	var all []string
	for i, s := range p.v.Shards {
		for _, x := range p.v.Coord.Txns {
			now := state(s, x.Tx)
			lacks := x.State == txn.Committed && slices.Contains(x.Touched, i+1) && now != part.Prepared && now != part.Committed
			if lacks || now == part.Committed && x.State != txn.Committed || now == part.Aborted && x.State != txn.Aborted {
				all = append(all, fmt.Sprintf("T3: %s, at shard %d it is %d", check.Txn(x), i+1, now))
			}
		}
	}
	return all
}

// left tells where something is left of one that is over.
func (p *past) left() []string {
	var all []string
	for i, s := range p.v.Shards {
		for _, x := range p.v.Coord.Txns {
			if txn.Over(x) && something(s, x.Tx) {
				all = append(all, fmt.Sprintf("T2: %s, shard %d has something of it", check.Txn(x), i+1))
			}
		}
	}
	return all
}

// decides says whether an event is a decision.
func decides(e api.Event) bool { return e.Kind == api.EvCommitted || e.Kind == api.EvAborted }

// decided tells what is wrong with an event that is new, if that is a decision.
func (p *past) decided(e api.Event) []string {
	var all []string
	many := 0
	for _, other := range p.v.Coord.Trace {
		if decides(other) && other.Tx == e.Tx {
			many++
		}
	}
	if decides(e) && many != 1 {
		all = append(all, fmt.Sprintf("T3: %d is decided %d times", e.Tx, many))
	}
	if e.Kind == api.EvCommitted {
		all = append(all, p.committed(p.v.Coord.Txns[e.Tx-1])...)
	}
	return all
}

// committed tells what a transaction has not, as it is committed.
func (p *past) committed(x txn.Txn) []string {
	var all []string
	got := map[api.Res]api.Mode{} // as it has it now
	for _, g := range x.Got {
		got[g.At] = g.Mode
	}
	for _, i := range x.Touched {
		s := p.v.Shards[i-1]
		if state(s, x.Tx) != part.Prepared || !slices.Contains(x.Votes, i) {
			all = append(all, fmt.Sprintf("T3: %s, but shard %d hasn't voted for it", check.Txn(x), i))
		}
		for _, g := range s.Held {
			if g.Tx == x.Tx && got[g.At] == g.Mode {
				delete(got, g.At)
			}
		}
	}
	if len(got) > 0 {
		all = append(all, fmt.Sprintf("T3: %s without %v", check.Txn(x), got))
	}
	return all
}

// logged tells which locks of a shard's log are behind a decision there, and which of committed ones clash, and don't go along the order in which these were committed.
func (p *past) logged(i int) []string {
	var all []string
	order := map[int]int{}
	for place, e := range p.v.Coord.Trace {
		if e.Kind == api.EvCommitted {
			order[e.Tx] = place
		}
	}
	log, was := p.v.Shards[i].Log, p.was.Shards[i]
	for j, g := range log {
		if j >= len(was.Log) && part.Decided(state(was, g.Tx)) {
			all = append(all, "T3: behind a decision "+check.Granted(log[j:j+1]))
		}
		for _, h := range log[:j] {
			first, a := order[h.Tx]
			then, b := order[g.Tx]
			if a && b && h.At == g.At && !mode.Together(h.Mode, g.Mode) && first > then {
				all = append(all, "T3: not in order "+check.Granted([]api.Grant{h, g}))
			}
		}
	}
	return all
}

// oldest is the number of the oldest transaction that isn't decided, or 0.
func oldest(v cluster.View) int {
	for _, x := range v.Coord.Txns {
		if !txn.Decided(x) {
			return x.Tx
		}
	}
	return 0
}

// victim tells what is wrong with an event that is new, if by that a victim is aborted.
func (p *past) victim(e api.Event) []string {
	byElder := false
	for elder := 1; elder < e.Tx; elder++ {
		byElder = byElder || p.waited[[2]int{elder, e.Tx}]
	}
	onCircle := false
	for _, one := range p.circles {
		onCircle = onCircle || slices.Contains(one, e.Tx)
	}
	switch {
	case e.Kind != api.EvAborted:
	case e.Code == txn.ByWound && (p.c.Probe || !byElder || e.Tx == oldest(p.was)):
		return []string{fmt.Sprintf("T4: %d is wounded, for whom no elder one waited, or which is the oldest one", e.Tx)}
	case e.Code == txn.ByCircle && (!p.c.Probe || p.calm && !onCircle):
		return []string{fmt.Sprintf("T4: %d was on no circle", e.Tx)}
	}
	return nil
}

// bound is the document's, of how many calm rounds, or fair windows, there are behind which nobody is on a circle, and nothing is left.
func bound(c api.Config) int { return 5 * (c.Lease + 3*c.Resend + 24) }

// rest tells what shouldn't be there behind these: T5 and T6.
func (p *past) rest() []string {
	var all []string
	if on := graph.Circles(p.edges()); len(on) > 0 {
		all = append(all, fmt.Sprintf("T5: %v are on a circle", on))
	}
	for _, one := range p.circles {
		if !slices.ContainsFunc(one, func(tx int) bool { return p.v.Coord.Txns[tx-1].State == txn.Aborted }) {
			all = append(all, fmt.Sprintf("T5: %v were on a circle, and none of them is aborted", one))
		}
	}
	dead := map[int]bool{} // the transactions of those that crashed
	for _, e := range p.v.Coord.Trace {
		if e.Kind == api.EvCrashed {
			dead[now(p.v.Coord, e.Client).Tx] = true
		}
	}
	first := oldest(p.v)
	for _, x := range p.v.Coord.Txns {
		if txn.Decided(x) != txn.Over(x) || x.State == txn.Preparing || dead[x.Tx] || x.Open && !p.waits(x) {
			all = append(all, "T6: "+check.Txn(x))
		}
		for i, s := range p.v.Shards {
			if txn.Decided(x) && something(s, x.Tx) {
				all = append(all, fmt.Sprintf("T6: %s, shard %d has something of it", check.Txn(x), i+1))
			}
		}
	}
	if !p.c.Probe && slices.ContainsFunc(p.edges(), func(e api.Edge) bool { return e.From == first }) {
		all = append(all, fmt.Sprintf("T6: %d is the oldest one, and waits", first))
	}
	return all
}

// waits says whether a transaction's request waits at its shard.
func (p *past) waits(x txn.Txn) bool {
	return slices.ContainsFunc(p.v.Shards[x.Shard-1].Waits, func(g api.Grant) bool { return g.Tx == x.Tx && g.Seq == x.Seq && g.At == x.At })
}

// watch is a cluster whose promises are looked at behind each entry.
type watch struct {
	*past
	k      *cluster.Cluster
	script []script.Entry
}

// watched is a watch over a new cluster.
func watched(t *testing.T, c api.Config, clients int) *watch {
	t.Helper()
	return &watch{past: begun(c), k: made(t, c, clients)}
}

// tells tells what is broken.
func (w *watch) tells(t *testing.T, broken []string) {
	t.Helper()
	for _, one := range broken {
		t.Errorf("%s\nof %+v, behind %s: it has\n%s", one, w.c, told(w.script), text(w.v))
	}
	check.Stop(t)
}

// does are entries that happen.
func (w *watch) does(t *testing.T, l ...script.Entry) {
	t.Helper()
	for _, e := range l {
		w.k.Do(e)
		w.script = append(w.script, e)
		w.tells(t, w.adds(w.k.View()))
	}
}

// calms is a calm round, entry by entry; and of a twin as a whole. If nothing is lost, both have the same then.
func (w *watch) calms(t *testing.T, twin *cluster.Cluster) {
	t.Helper()
	lost := w.v.Lost
	w.does(t, script.Entry{Kind: script.Tick})
	for range w.v.Net {
		w.does(t, script.Entry{Kind: script.Deliver})
	}
	if twin.Calm(1); w.v.Lost == lost {
		has(t, twin, w.v)
	}
}
