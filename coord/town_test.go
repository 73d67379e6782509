package coord_test

import (
	"slices"
	"testing"

	"catchbolt/api"
	"catchbolt/check"
	"catchbolt/coord"
	"catchbolt/part"
	"catchbolt/shard"
	"catchbolt/txn"
)

// town is a coordinator with its shards, and the messages that are on their way between them.
type town struct {
	o      *coord.Coord
	shards []*shard.Shard
	way    []api.Msg
	waited map[[2]int]bool // who ever waited for whom
}

// settled is a town in which nothing happened yet.
func settled(t *testing.T, c api.Config, clients int) *town {
	t.Helper()
	w := &town{o: made(t, c, clients), waited: map[[2]int]bool{}}
	for id := 1; id <= c.Shards; id++ {
		s, err := shard.New(id, c)
		if err != nil {
			t.Fatalf("New(%d, %+v) = %v", id, c, err)
		}
		w.shards = append(w.shards, s)
	}
	return w
}

// does does a move to the coordinator, if it may be done.
func (w *town) does(t *testing.T, d move) {
	t.Helper()
	before := w.o.View()
	_, sent, _ := told(w.o, d)
	after := w.o.View()
	w.way = append(w.way, sent...)
	if broken := flaw(before, after, d); broken != "" {
		t.Errorf("%s: %s, of %s", broken, d.text(), check.Coord(before))
	}
	for i, x := range before.Txns {
		if !decided(x) && after.Txns[i].Reason == txn.ByWound && !w.waitsFor(before, x.Tx) {
			t.Errorf("%d is wounded, for whom no elder one waited, of %s", x.Tx, check.Coord(before))
		}
	}
}

// waitsFor says whether an elder one that isn't decided ever waited for a transaction.
func (w *town) waitsFor(v coord.View, tx int) bool {
	return slices.ContainsFunc(v.Txns[:tx-1], func(x txn.Txn) bool { return !decided(x) && w.waited[[2]int{x.Tx, tx}] })
}

// comes is the message at a place on the way: it comes to its node.
func (w *town) comes(t *testing.T, place int) {
	t.Helper()
	m := w.way[place]
	w.way = slices.Delete(w.way, place, place+1)
	if m.To == 0 {
		w.does(t, come(m))
		return
	}
	s := w.shards[m.To-1]
	sent, err := s.Handle(m)
	if err != nil {
		t.Errorf("Handle(%+v) = %v", m, err)
	}
	w.way = append(w.way, sent...)
	w.look(s)
}

// look keeps who waits for whom at a shard.
func (w *town) look(s *shard.Shard) {
	for _, e := range s.View().Edges {
		w.waited[[2]int{e.From, e.To}] = true
	}
}

// ticks is a tick of all nodes.
func (w *town) ticks(t *testing.T) {
	t.Helper()
	w.does(t, tick())
	for _, s := range w.shards {
		w.way = append(w.way, s.Tick()...)
		w.look(s)
	}
}

// calm is a tick behind which all messages come.
func (w *town) calm(t *testing.T) {
	t.Helper()
	w.ticks(t)
	for many := 0; len(w.way) > 0; many++ {
		if many > 100000 {
			t.Fatalf("there is no end of %s", check.Sent(w.way))
		}
		w.comes(t, 0)
	}
}

// act is what a client does by chance: mostly what brings its transaction on.
func (q chance) act(by *uint64, client int) move {
	switch n := check.Next(by) % 20; {
	case check.Next(by)%q.crashes == 0:
		return crash(client)
	case n < 5:
		return begin(client)
	case n < 17:
		m := []api.Mode{api.IX, api.IX, api.S, api.X}[check.Next(by)%4]
		at := q.place(by)
		if at.Row > 0 {
			m = []api.Mode{api.S, api.X}[check.Next(by)%2]
		}
		return move{kind: locks, client: client, at: at, mode: m}
	case n < 19:
		return commit(client)
	}
	return abort(client)
}

// happens is something that happens in a town, by chance.
func (q chance) happens(t *testing.T, by *uint64, w *town) {
	t.Helper()
	n := check.Next(by) % 30
	if len(w.way) == 0 {
		n = 29
	}
	switch place := check.Next(by) % max(1, len(w.way)); {
	case check.Next(by)%q.ticks == 0:
		w.ticks(t)
	case n < 17:
		w.comes(t, place)
	case n < 18:
		w.way = slices.Delete(w.way, place, place+1)
	case n < 19 && len(w.way) < 500:
		w.way = append(w.way, w.way[place])
	default:
		w.does(t, q.act(by, 1+check.Next(by)%q.clients))
	}
}

// ended checks what is left behind calm rounds: each that is decided is over, no shard has anything of it, and none is Preparing.
func (w *town) ended(t *testing.T) {
	t.Helper()
	for _, x := range w.o.View().Txns {
		if x.State == txn.Preparing || decided(x) && !txn.Over(x) {
			t.Errorf("%s", check.Txn(x))
		}
	}
	for i, s := range w.shards {
		v := s.View()
		for _, g := range slices.Concat(v.Held, v.Waits) {
			if x := w.o.View().Txns[g.Tx-1]; decided(x) || !slices.Contains(x.Touched, i+1) {
				t.Errorf("%s has %s, of %s", check.Step(i+1, 0), check.Granted([]api.Grant{g}), check.Txn(x))
			}
		}
		for _, one := range v.States {
			x := w.o.View().Txns[one.Tx-1]
			if decided(x) != part.Decided(one.State) || decided(x) && (x.State == txn.Committed) != (one.State == part.Committed) {
				t.Errorf("to %d it is %d, of %s", i+1, one.State, check.Txn(x))
			}
		}
	}
}

func TestWithShards(t *testing.T) {
	reasons := map[int]int{}
	eachRun(24, func(q chance, c api.Config, by *uint64) {
		c.Lease, c.Resend = c.Lease+3, min(c.Resend, 2)
		if q.shards > 10 {
			return
		}
		w := settled(t, c, q.clients)
		for range 700 {
			q.happens(t, by, w)
			check.Stop(t)
		}
		for range 2 * (c.Lease + c.Resend) {
			w.calm(t)
		}
		w.ended(t)
		check.Stop(t)
		for _, x := range w.o.View().Txns {
			if decided(x) {
				reasons[x.Reason]++
			}
		}
	})
	for reason := 0; reason <= 5; reason++ {
		if reasons[reason] == 0 {
			t.Errorf("they are decided as %v", reasons)
		}
	}
	t.Log(reasons)
}
