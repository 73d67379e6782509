package cluster_test

import (
	"slices"
	"testing"

	"catchbolt/api"
	"catchbolt/check"
	"catchbolt/cluster"
	"catchbolt/coord"
	"catchbolt/script"
	"catchbolt/txn"
)

// P21.1 to P21.4, by what a book and a cluster have.

// world is a small one: what may happen in it behind what happened ahead, and how many entries at most.
type world struct {
	clients, shards, flight int
	lease, resend           int
	ahead, entries          string
	most                    int
}

// worlds are some.
func worlds() []world {
	return []world{
		{1, 1, 2, 2, 1, "", "tick, begin 1, lock 1 1X, lock 1 1.1S, commit 1, abort 1, crash 1, deliver 0, deliver 1, drop 0, twice 0", 6},
		{2, 1, 3, 2, 2, "begin 2, begin 1", "tick, begin 1, lock 1 1X, lock 2 1X, commit 1, abort 2, deliver 0, deliver 1, twice 0, drop 1", 5},
		{2, 2, 4, 3, 2, "begin 1, lock 1 1X, deliver 0, deliver 0, begin 2, lock 2 2X, deliver 0, deliver 0", "tick, lock 1 2X, lock 2 1S, commit 1, commit 2, crash 2, deliver 0, deliver 2, drop 1", 6},
		{2, 2, 6, 9, 3, "begin 2, lock 2 1S, begin 1, lock 1 1S, lock 1 2X, deliver 0, deliver 0, deliver 0, deliver 0, lock 1 2X, deliver 0, deliver 0, commit 1", "tick, lock 2 1X, lock 2 2X, begin 1, abort 2, commit 2, deliver 0, deliver 1, twice 1", 5},
	}
}

// config is that of a world.
func (w world) config(c api.Config) api.Config {
	c.Shards, c.Flight, c.Lease, c.Resend = w.shards, w.flight, w.lease, w.resend
	return c
}

// again are a book, and a cluster, in which those entries happened.
func (w world) again(t *testing.T, c api.Config, l []script.Entry) (*book, *cluster.Cluster) {
	t.Helper()
	b, k := opened(t, c, w.clients)
	for _, e := range l {
		b.happens(e)
		k.Do(e)
	}
	return b, k
}

// each lets each entry happen behind others, in a book and in a cluster; and a calm round. It calls found with what there is behind each entry by which something changed.
func (w world) each(t *testing.T, c api.Config, l []script.Entry, found func(e script.Entry, b *book)) {
	t.Helper()
	b, k := w.again(t, c, l)
	before := k.View()
	for _, e := range entries(w.entries) {
		b.both(t, k, e)
		if !same(k.View(), before) {
			found(e, b)
			b, k = w.again(t, c, l)
		}
	}
	b.calm()
	k.Calm(1)
	has(t, k, b.view())
}

// eachState calls f with what happened, by which each state comes about to which so many entries can bring a world.
func (w world) eachState(t *testing.T, c api.Config, f func(l []script.Entry)) {
	t.Helper()
	ahead := entries(w.ahead)
	next, seen := [][]script.Entry{ahead}, map[string]bool{}
	for len(next) > 0 {
		l := next[0]
		next = next[1:]
		w.each(t, c, l, func(e script.Entry, b *book) {
			if key := text(b.view()); !seen[key] && len(l)-len(ahead) < w.most {
				one := append(slices.Clone(l), e)
				seen[key], next = true, append(next, one)
				f(one)
			}
		})
		check.Stop(t)
	}
}

func TestEachEntryFromEachState(t *testing.T) {
	for i, small := range worlds() {
		check.Both(func(c api.Config) {
			c = small.config(c)
			many, rested := 0, 0
			small.eachState(t, c, func(l []script.Entry) {
				watched(t, c, small.clients).does(t, l...)
				if many++; many%100 > 0 {
					return
				}
				roomy := c
				roomy.Flight = 1000
				w := watched(t, roomy, small.clients)
				if w.does(t, l...); w.rests(t, small.clients) {
					rested++
				}
			})
			if t.Logf("%d: %d states, %d at rest", i, many, rested); many < 1000 || rested == 0 {
				t.Errorf("there are too few states")
			}
		})
	}
}

// chance is how entries are picked: how many clients, tables and rows there are, one of how many entries is a tick, and one of how many of a client's a crash; and how much room there is. Where none is a crash, no client aborts, either, and leases are long.
type chance struct {
	clients, shards, tables, rows, ticks, crashes int
	slots, queue, flight                          int
}

// chances are those of all runs.
func chances() []chance {
	return []chance{
		{1, 1, 2, 2, 10, 400, 4096, 64, 1000},
		{2, 1, 2, 1, 20, 1000, 4096, 64, 1000},
		{2, 2, 2, 0, 20, 1000, 4096, 64, 1000},
		{3, 2, 3, 1, 20, 1000, 4096, 64, 1000},
		{4, 3, 4, 2, 30, 300, 4096, 64, 1000},
		{4, 4, 4, 0, 60, 3000, 4096, 64, 1000},
		{4, 2, 3, 3, 15, 100, 7, 2, 30},
		{8, 3, 5, 2, 30, 300, 4096, 64, 1000},
		{8, 4, 8, 0, 100, 3000, 20, 3, 12},
		{5, 64, 250, 250, 25, 100, 1, 1, 1},
		{4, 2, 3, 0, 30, 0, 4096, 64, 1000},
		{8, 3, 4, 1, 40, 0, 4096, 64, 1000},
	}
}

// config is that of a run.
func (q chance) config(c api.Config, n int) api.Config {
	c.Shards, c.Slots, c.Queue, c.Flight = q.shards, q.slots, q.queue, q.flight
	c.Lease, c.Resend = []int{1, 3, 5, 12, 30, 9}[n%6], []int{1, 2, 4, 7, 12}[n%5]
	if q.crashes == 0 {
		c.Lease = 1000
	}
	return c
}

// eachRun calls f for runs of all chances and configs of several sorts.
func eachRun(runs int, f func(q chance, c api.Config, by *uint64)) {
	by := uint64(21)
	for _, q := range chances() {
		for n := range runs {
			check.Both(func(c api.Config) { f(q, q.config(c, n), &by) })
		}
	}
}

// place is a resource.
func (q chance) place(by *uint64) api.Res {
	return api.Res{Table: 1 + check.Next(by)%q.tables, Row: max(0, check.Next(by)%(2*q.rows+1)-q.rows)}
}

// mode is the one that a client asks for, mostly one that leads on.
func (q chance) mode(by *uint64, at api.Res) api.Mode {
	all := []api.Mode{api.IS, api.IX, api.IX, api.S, api.X}
	switch {
	case check.Next(by)%20 == 0:
		all = check.Modes()
	case at.Row > 0 || q.rows == 0:
		all = []api.Mode{api.S, api.X, api.X}
	}
	return all[check.Next(by)%len(all)]
}

// now is a client's transaction that isn't decided, or a zero one.
func now(v coord.View, client int) txn.Txn {
	for i := len(v.Trace) - 1; i >= 0; i-- {
		if e := v.Trace[i]; e.Kind == api.EvBegan && e.Client == client {
			if x := v.Txns[e.Tx-1]; !txn.Decided(x) {
				return x
			}
			break
		}
	}
	return txn.Txn{}
}

// act is what a client does: mostly what brings its transaction on.
func (q chance) act(by *uint64, v coord.View) script.Entry {
	client, at := 1+check.Next(by)%q.clients, q.place(by)
	e := script.Entry{Kind: script.Lock, Client: client, At: at, Mode: q.mode(by, at)}
	n := check.Next(by) % 60
	switch x := now(v, client); {
	case q.crashes > 0 && check.Next(by)%q.crashes == 0:
		e = script.Entry{Kind: script.Crash, Client: client}
	case q.crashes > 0 && n == 0:
		e = script.Entry{Kind: script.Abort, Client: client}
	case x.Tx == 0 || n == 1:
		e = script.Entry{Kind: script.Begin, Client: client}
	case n < 3+8*len(x.Got):
		e = script.Entry{Kind: script.Commit, Client: client}
	}
	return e
}

// pick is an entry.
func (q chance) pick(by *uint64, v cluster.View) script.Entry {
	many := len(v.Net)
	n, place := check.Next(by)%30, check.Next(by)%max(1, many)
	switch {
	case check.Next(by)%q.ticks == 0:
		return script.Entry{Kind: script.Tick}
	case many == 0 || n < 8:
		return q.act(by, v.Coord)
	case n < 9:
		return script.Entry{Kind: script.Drop, Pick: place}
	case n < 11 && many < 60:
		return script.Entry{Kind: script.Twice, Pick: place + many*(check.Next(by)%3)}
	case n < 20:
		place = 0
	}
	return script.Entry{Kind: script.Deliver, Pick: place}
}

func TestRunsAgainstABook(t *testing.T) {
	met, lost := map[[2]int]int{}, 0
	bad := wrong()
	eachRun(12, func(q chance, c api.Config, by *uint64) {
		b, k := opened(t, c, q.clients)
		for range 200 {
			switch n := check.Next(by) % 100; {
			case n == 0:
				b.calm()
				k.Calm(1)
				has(t, k, b.view())
			case n < 5:
				b.both(t, k, bad[check.Next(by)%len(bad)])
			default:
				b.both(t, k, q.pick(by, k.View()))
			}
			check.Stop(t)
		}
		for _, e := range b.o.View().Trace {
			met[[2]int{e.Kind, e.Code * (e.Kind / 7)}]++ // of those that are aborted by reasons
		}
		lost += b.lost
	})
	for kind := 1; kind <= 8; kind++ {
		if kind != 7 && met[[2]int{kind, 0}] < 20 || kind <= 5 && met[[2]int{7, kind}] < 5 {
			t.Errorf("they are traced as %v", met)
		}
	}
	if t.Log(met, lost); lost < 100 {
		t.Errorf("%d are lost", lost)
	}
}

// raw are bytes by chance, of which many are entries that are Ok.
func raw(by *uint64) []byte {
	var b []byte
	for range check.Next(by) % 400 {
		kinds := []byte{0, 1, 2, 2, 3, 3, 3, 3, 4, 5, 7, 7, 7, 7, 7, 8, 9, 10}
		if check.Next(by)%100 == 0 {
			kinds = []byte{6}
		}
		part := []byte{kinds[check.Next(by)%len(kinds)], byte(check.Next(by) % 4), byte(check.Next(by) % 4), byte(check.Next(by) % 3), byte(check.Next(by) % 5)}
		if check.Next(by)%20 > 0 {
			keep := []int{5, 1, 2, 5, 2, 2, 2, 4, 4, 4, 5}[part[0]] // the bytes that its kind has
			clear(part[keep:])
		}
		if part[0] > 6 {
			part[1] = 0
		}
		b = append(b, part...)
	}
	return append(b, make([]byte, check.Next(by)%5)...)
}

func TestRunsOfBytes(t *testing.T) {
	by, events := uint64(3), 0
	for n := range 400 {
		check.Both(func(c api.Config) {
			c.Shards, c.Lease, c.Resend, c.Flight = 1+n%3, 1+n%7, 1+n%4, 1+n%13
			b, k := opened(t, c, 1+n%4)
			l := raw(&by)
			for _, e := range script.Parse(l) {
				b.happens(e)
			}
			if many := k.Run(l); many != (len(l)+4)/5 {
				t.Errorf("Run of %d bytes = %d", len(l), many)
			}
			has(t, k, b.view())
			events += len(b.o.View().Trace)
			check.Stop(t)
		})
	}
	if t.Log(events); events < 10000 {
		t.Errorf("there are %d events", events)
	}
}

// P21.4

func TestTwoScriptsAreOne(t *testing.T) {
	by := uint64(4)
	for n := range 60 {
		check.Both(func(c api.Config) {
			c.Shards, c.Lease, c.Resend, c.Flight = 1+n%3, 1+n%7, 1+n%4, 1+n%13
			b := raw(&by)
			b = b[:len(b)/5*5]
			whole := made(t, c, 3)
			many := whole.Run(b)
			want := whole.View()
			for cut := 0; cut <= len(b); cut += 5 {
				k := made(t, c, 3)
				if got := k.Run(b[:cut]) + k.Run(b[cut:]); got != many {
					t.Errorf("Run = %d, want %d", got, many)
				}
				has(t, k, want)
			}
			k := made(t, c, 3)
			for part := range slices.Chunk(b, 5) {
				k.Run(part)
			}
			has(t, k, want)
			check.Stop(t)
		})
	}
}

// Of scripts that don't have whole entries this isn't so.
func TestPartsOfEntriesAreNone(t *testing.T) {
	k := made(t, check.Roomy(false), 1)
	if many := k.Run([]byte{2, 1}) + k.Run([]byte{0, 0, 0}); many != 2 {
		t.Errorf("Run = %d", many)
	}
	has(t, k, made(t, check.Roomy(false), 1).View())
}

func TestRunsHangOnWhatHappenedAlone(t *testing.T) {
	eachRun(6, func(q chance, c api.Config, by *uint64) {
		k := made(t, c, q.clients)
		var l []script.Entry
		for range 200 {
			e := q.pick(by, k.View())
			k.Do(e)
			l = append(l, e)
		}
		want := of(k)
		for range 3 {
			twin := made(t, c, q.clients)
			twin.Run(bytes(t, l...))
			if got := of(twin); got != want {
				t.Errorf("%s: it has\n%s, and\n%s", told(l), got, want)
			}
		}
		check.Stop(t)
	})
}
