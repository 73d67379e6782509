package coord_test

import (
	"slices"
	"testing"

	"catchbolt/api"
	"catchbolt/check"
	"catchbolt/coord"
	"catchbolt/txn"
)

// P18.1 to P18.3, by what a book and a coordinator tell.

// world is what there may be, for moves of all kinds: so many transactions, and requests of each.
type world struct {
	clients, shards, txs, seqs int
	places                     []string
	modes                      []api.Mode
}

// moves are all that there may be, some wrong ones among them.
func (w world) moves() []move {
	all := []move{tick(), begin(w.clients + 1), come(api.Msg{Kind: api.KPrepare, To: 1, Tx: 1}), acked(w.shards+1, 1), come(api.Msg{Kind: api.KAck, From: 1}), expired(1, w.txs+1)}
	for client := 1; client <= w.clients; client++ {
		all = append(all, begin(client), commit(client), abort(client), crash(client), move{kind: locks, client: client})
		for _, place := range w.places {
			for _, m := range w.modes {
				all = append(all, lock(client, place, m))
			}
		}
	}
	for tx := 1; tx <= w.txs; tx++ {
		for shard := 1; shard <= w.shards; shard++ {
			all = append(all, voted(shard, tx, 0), voted(shard, tx, 1), acked(shard, tx), expired(shard, tx))
			for seq := 1; seq <= w.seqs; seq++ {
				all = append(all, w.answers(shard, tx, seq)...)
			}
		}
		for other := 1; other <= w.txs; other++ {
			all = append(all, w.between(tx, other)...)
		}
	}
	return all
}

// answers are all of a shard to a request.
func (w world) answers(shard, tx, seq int) []move {
	all := []move{refused(shard, tx, seq, 9)}
	for _, place := range w.places {
		for _, m := range w.modes {
			all = append(all, granted(shard, tx, seq, place, m))
		}
	}
	return all
}

// between are wounds and probes between two transactions.
func (w world) between(tx, other int) []move {
	var all []move
	if other < tx {
		all = append(all, wounded(1, tx, other))
	}
	for seq := 1; seq <= w.seqs; seq++ {
		all = append(all, probing(1, step(other, 0), step(tx, seq)), probing(1, step(other, 1), step(tx, seq)))
		if other != tx {
			all = append(all, probing(1, step(tx, 0), step(tx, seq), step(other, 1)))
		}
	}
	return all
}

// past is a book, and the moves by which it came about.
type past struct {
	b     *book
	moves []move
}

// onward is what was, and a move more.
func (p past) onward(d move) past {
	next := past{b: p.b.copy(), moves: append(slices.Clone(p.moves), d)}
	next.b.does(d)
	return next
}

// isIn says whether what was is of a world, of which there are no more transactions, and no more requests of each.
func (w world) isIn(p past) bool {
	return len(p.b.txns) <= w.txs && !slices.ContainsFunc(p.b.txns, func(x txn.Txn) bool { return x.Seq > w.seqs })
}

// eachState calls f with what was, by which each state comes about to which all moves can bring a coordinator.
func (w world) eachState(t *testing.T, c api.Config, f func(p past)) int {
	t.Helper()
	first, _ := opened(t, c, w.clients)
	every, next := w.moves(), []past{{b: first}}
	seen := map[string]bool{first.key(): true}
	for len(next) > 0 {
		p := next[0]
		next = next[1:]
		f(p)
		for _, d := range every {
			if p.b.refusal(d) != api.OK {
				continue
			}
			one := p.onward(d)
			if key := one.b.key(); !seen[key] && w.isIn(one) {
				seen[key] = true
				next = append(next, one)
			}
		}
	}
	return len(seen)
}

// again are a book that is as it was, and a coordinator to which the same was done.
func (p past) again(t *testing.T) (*book, *coord.Coord) {
	t.Helper()
	o := made(t, p.b.c, p.b.many, p.moves)
	return p.b.copy(), o
}

func TestEachMoveFromEachState(t *testing.T) {
	for i, q := range []struct {
		w             world
		lease, resend int
	}{
		{world{1, 2, 1, 2, []string{"1", "2"}, []api.Mode{api.X}}, 2, 2},
		{world{1, 1, 2, 1, []string{"1.1"}, []api.Mode{api.S}}, 1, 2},
		{world{2, 1, 2, 1, []string{"1"}, []api.Mode{api.X}}, 1, 1},
		{world{3, 1, 1, 1, []string{"1"}, []api.Mode{api.S}}, 2, 1},
	} {
		check.Both(func(c api.Config) {
			c.Shards, c.Lease, c.Resend = q.w.shards, q.lease, q.resend
			every := q.w.moves()
			many := q.w.eachState(t, c, func(p past) {
				b, o := p.again(t)
				for _, d := range every {
					b.both(t, o, d)
					if !check.SameCoord(b.view(), p.b.view()) {
						b, o = p.again(t)
					}
				}
				check.Stop(t)
			})
			t.Logf("%d: %d states, %d moves", i, many, len(every))
		})
	}
}

// chance is how moves are picked: how many clients, shards and tables there are, how often one of that many moves is a tick, and how often one is a crash.
type chance struct {
	clients, shards, tables, ticks, crashes int
}

// chances are those of all runs.
func chances() []chance {
	return []chance{{1, 1, 1, 10, 400}, {2, 2, 2, 20, 1000}, {3, 2, 4, 30, 300}, {4, 64, 250, 12, 100}, {8, 4, 8, 25, 200}, {8, 7, 20, 100, 2000}, {5, 3, 3, 3, 50}}
}

// pick is a move by chance: one that may well be next, or any.
func (q chance) pick(by *uint64, b *book) move {
	client, shard := 1+check.Next(by)%q.clients, 1+check.Next(by)%q.shards
	x := b.now(client)
	switch n := check.Next(by) % 40; {
	case check.Next(by)%q.ticks == 0:
		return tick()
	case check.Next(by)%q.crashes == 0:
		return crash(client)
	case n < 3:
		return q.stray(by, b, shard)
	case n < 8:
		return q.forced(by, b, shard)
	case n < 10:
		return q.wrong(by, client)
	case n < 20 && len(b.txns) > 0:
		return acked(shard, max(1, len(b.txns)-check.Next(by)%(2*q.clients)))
	case x.Tx == 0:
		return begin(client)
	case x.State == txn.Preparing:
		return voted(x.Touched[check.Next(by)%len(x.Touched)], x.Tx, min(1, check.Next(by)%10))
	case x.Open && n < 33:
		return []move{refused(x.Shard, x.Tx, x.Seq, 1+n%15), granted(x.Shard, x.Tx, x.Seq, check.Res(x.At), x.Mode)}[min(1, n%4)]
	case n < 36:
		return lock(client, check.Res(q.place(by)), check.Modes()[check.Next(by)%4])
	case n < 39:
		return commit(client)
	}
	return abort(client)
}

// place is a resource.
func (q chance) place(by *uint64) api.Res {
	return api.Res{Table: 1 + check.Next(by)%q.tables, Row: max(0, check.Next(by)%5-2)}
}

// tx is the number of a transaction, mostly of one of the last ones.
func (q chance) tx(by *uint64, b *book) int {
	return max(1, len(b.txns)+1-check.Next(by)%(2*q.clients+1))
}

// stray is any message that a shard may send, of any transaction.
func (q chance) stray(by *uint64, b *book, shard int) move {
	all := fromShard(shard, q.tx(by, b))
	return all[check.Next(by)%len(all)]
}

// forced is what may end a transaction, or a probe.
func (q chance) forced(by *uint64, b *book, shard int) move {
	tx, other := q.tx(by, b), q.tx(by, b)
	if check.Next(by)%20 == 0 {
		return expired(shard, tx)
	}
	if !b.c.Probe && other != tx && check.Next(by)%8 == 0 {
		return wounded(shard, max(tx, other), min(tx, other))
	}
	var open []api.Step
	for _, x := range b.txns {
		if x.Open {
			open = append(open, step(x.Tx, x.Seq))
		}
	}
	check.Mix(open, by)
	if len(open) == 0 {
		return expired(shard, len(b.txns)+1)
	}
	next := open[check.Next(by)%len(open)]
	if check.Next(by)%10 == 0 {
		next = open[0]
	}
	return probing(shard, step(next.Tx, next.Seq*(check.Next(by)%2)), open[:1+check.Next(by)%len(open)]...)
}

// wrong is a move that may not be, or that is of another one than it may be of.
func (q chance) wrong(by *uint64, client int) move {
	all := []move{begin(q.clients + 1), commit(0), abort(-client), crash(q.clients + 256), begin(client), wrongLocks(client)[check.Next(by)%60]}
	all = append(all, come(check.WrongMessages()[check.Next(by)%100]), come(check.Messages()[check.Next(by)%10]), acked(q.shards%64+1, client))
	return all[check.Next(by)%len(all)]
}

// eachRun calls f for runs of all chances and configs of several sorts.
func eachRun(runs int, f func(q chance, c api.Config, by *uint64)) {
	by := uint64(18)
	for _, q := range chances() {
		for n := range runs {
			check.Both(func(c api.Config) {
				c.Shards, c.Lease, c.Resend = q.shards, []int{1, 2, 5, 12}[n%4], []int{1, 3, 7}[n%3]
				f(q, c, &by)
			})
		}
	}
}

func TestRunsAgainstABook(t *testing.T) {
	met := map[[2]int]int{}
	eachRun(24, func(q chance, c api.Config, by *uint64) {
		b, o := opened(t, c, q.clients)
		for range 400 {
			b.both(t, o, q.pick(by, b))
			check.Stop(t)
		}
		for _, e := range b.trace {
			met[[2]int{e.Kind, e.Code * (e.Kind / 7)}]++ // of those that are aborted by reasons
		}
	})
	for kind := 1; kind <= 8; kind++ {
		if kind != 7 && met[[2]int{kind, 0}] < 50 || kind <= 5 && met[[2]int{7, kind}] < 50 {
			t.Errorf("they are traced as %v", met)
		}
	}
	t.Log(met)
}
