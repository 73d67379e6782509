package shard_test

import (
	"fmt"
	"slices"
	"testing"

	"catchbolt/api"
	"catchbolt/check"
	"catchbolt/mode"
	"catchbolt/msg"
	"catchbolt/part"
	"catchbolt/shard"
)

// P15.2 and P15.3, by what a book and a shard send and have.

func TestEachMessageInEachState(t *testing.T) {
	for i, q := range []struct {
		w             world
		lease, resend int
		slots, queue  int
	}{
		{world{1, 3, []string{"1", "1.1"}, []api.Mode{api.IS, api.S, api.X}, false}, 2, 2, 4, 1},
		{world{2, 1, []string{"1"}, []api.Mode{api.S, api.X}, true}, 2, 2, 8, 2},
		{world{2, 2, []string{"1"}, []api.Mode{api.X}, true}, 2, 1, 2, 1},
		{world{2, 1, []string{"1", "2"}, []api.Mode{api.X}, false}, 1, 2, 3, 1},
		{world{2, 2, []string{"1"}, []api.Mode{api.S, api.X}, false}, 2, 2, 8, 2},
		{world{3, 1, []string{"1"}, []api.Mode{api.S, api.X}, false}, 2, 1, 8, 2},
	} {
		check.Both(func(c api.Config) {
			c.Lease, c.Resend, c.Slots, c.Queue = q.lease, q.resend, q.slots, q.queue
			many := q.w.eachState(t, c, func(ahead []api.Msg) {
				for _, m := range q.w.all() {
					b, s := opened(t, c)
					for _, one := range ahead {
						b.does(one)
						does(t, s, one)
					}
					b.both(t, s, m)
					check.Stop(t)
				}
			})
			t.Logf("%d: %d states", i, many)
		})
	}
}

// chance is how messages are picked: how many transactions, requests and tables there are, and in how many messages there is a tick.
type chance struct{ txs, seqs, tables, ticks int }

// pick is a message by chance, that may be, and is to this shard; or a tick.
func (q chance) pick(by *uint64) api.Msg {
	if check.Next(by)%q.ticks == 0 {
		return api.Msg{}
	}
	tx, seq := 1+check.Next(by)%q.txs, 1+check.Next(by)%q.seqs
	switch n := check.Next(by) % 20; {
	case n < 12:
		r := api.Res{Table: 1 + check.Next(by)%q.tables, Row: max(0, check.Next(by)%5-2)}
		m := check.Modes()[check.Next(by)%4]
		if r.Row > 0 && check.Next(by)%4 > 0 {
			m = []api.Mode{api.S, api.X}[check.Next(by)%2]
		}
		return api.Msg{Kind: api.KLock, To: here, Tx: tx, Seq: seq, At: r, Mode: m}
	case n < 14:
		return renew(tx)
	case n < 15:
		return prepare(tx)
	case n < 16:
		return decide(tx, check.Next(by)%2)
	}
	steps := []api.Step{step(q.txs+9, 1), step(tx, seq), step(q.txs+8, 3), step(q.txs+7, 3), step(q.txs+6, 3), step(q.txs+5, 3), step(q.txs+4, 3), step(q.txs+3, 3)}
	return probing(step(1+check.Next(by)%q.txs, max(0, check.Next(by)%(2*q.seqs)-q.seqs)), steps[:1+check.Next(by)%8]...)
}

// later puts transactions and requests on as a run goes on, else most that come would be of such that are decided, or elder ones.
func later(m api.Msg, i int) api.Msg {
	if m.Kind == api.KProbe {
		m.Next += i / 15
	}
	if m.Tx > 0 {
		m.Tx += i / 15
	}
	if m.Seq > 0 {
		m.Seq += i / 15
	}
	return m
}

// chances are those of all runs.
func chances() []chance {
	return []chance{{2, 2, 1, 8}, {3, 5, 1, 20}, {4, 3, 2, 10}, {6, 4, 2, 15}, {8, 6, 3, 30}, {12, 5, 2, 50}, {20, 8, 4, 100}}
}

// eachRun calls f for runs of all chances and configs of several sorts, each with messages that come one behind the other.
func eachRun(f func(c api.Config, run []api.Msg)) {
	by := uint64(15)
	for _, q := range chances() {
		for n := range 24 {
			check.Both(func(c api.Config) {
				c.Lease, c.Resend = []int{1, 2, 5, 12}[n%4], []int{1, 3, 7}[n%3]
				c.Slots, c.Queue = []int{4096, 12, 5}[n/4%3], []int{64, 2}[n/12]
				var run []api.Msg
				for i := range 300 {
					run = append(run, later(q.pick(&by), i))
				}
				f(c, run)
			})
		}
	}
}

func TestRunsAgainstABook(t *testing.T) {
	eachRun(func(c api.Config, run []api.Msg) {
		b, s := opened(t, c)
		for _, m := range run {
			b.both(t, s, m)
			check.Stop(t)
		}
	})
}

func TestWrongOnesBetweenChangeNothing(t *testing.T) {
	wrong, n := check.WrongMessages(), 0
	eachRun(func(c api.Config, run []api.Msg) {
		b, s := opened(t, c)
		for _, m := range run {
			n++
			mayNot(t, s, wrong[n%len(wrong)], api.ErrForm)
			if other := m; !isTick(m) {
				other.To = 1 + (here+n)%64
				if other.To != here {
					mayNot(t, s, other, api.ErrArg)
				}
			}
			b.both(t, s, m)
			check.Stop(t)
		}
	})
}

// P15.4

// among says whether a list has something of a transaction.
func among(l []api.Grant, tx int) bool {
	return slices.ContainsFunc(l, func(g api.Grant) bool { return g.Tx == tx })
}

// unsound is what of P15.4 a view breaks, whatever was ahead of it; nothing, if it breaks nothing.
func unsound(v shard.View) string {
	for i, g := range v.Held {
		for _, o := range v.Held[:i] {
			if g.At == o.At && (g.Tx == o.Tx || !mode.Together(g.Mode, o.Mode)) {
				return fmt.Sprintf("%v and %v don't go together", o, g)
			}
		}
	}
	for _, one := range v.States {
		is := func(e api.Edge) bool { return e.From == one.Tx || e.To == one.Tx }
		if part.Decided(one.State) && (among(v.Held, one.Tx) || among(v.Waits, one.Tx) || slices.ContainsFunc(v.Edges, is) ||
			slices.Contains(v.Leases, one.Tx) || slices.Contains(v.Book, one.Tx)) {
			return fmt.Sprintf("%d is decided", one.Tx)
		}
	}
	return ""
}

// locksOf are a transaction's, as a text.
func locksOf(v shard.View, tx int) string {
	return check.Granted(slices.DeleteFunc(slices.Clone(v.Held), func(g api.Grant) bool { return g.Tx != tx }))
}

// stateOf is a transaction's.
func stateOf(v shard.View, tx int) int {
	for _, one := range v.States {
		if one.Tx == tx {
			return one.State
		}
	}
	return part.Fresh
}

// lost is what of P15.4 is broken by what came between two views: one that was Prepared has lost a lock, and isn't decided; or a decision is gone.
func lost(before, after shard.View) string {
	for _, one := range before.States {
		now := stateOf(after, one.Tx)
		if part.Decided(one.State) && now != one.State {
			return fmt.Sprintf("%d was decided", one.Tx)
		}
		if one.State == part.Prepared && !part.Decided(now) && (now != part.Prepared || locksOf(after, one.Tx) != locksOf(before, one.Tx)) {
			return fmt.Sprintf("%d was Prepared", one.Tx)
		}
	}
	return ""
}

// unhurt is one that is wounded by what is sent, and isn't hurt so in any of some views.
func unhurt(sent []api.Msg, views ...shard.View) string {
	for _, m := range sent {
		hurts := func(e api.Edge) bool { return e.From == m.Next && e.To == m.Tx }
		is := func(v shard.View) bool { return slices.ContainsFunc(v.Edges, hurts) }
		if m.Kind == api.KWound && (m.Next >= m.Tx || !slices.ContainsFunc(views, is)) {
			return fmt.Sprintf("%d is wounded by %d", m.Tx, m.Next)
		}
	}
	return ""
}

func TestWhatIsBrokenIsFound(t *testing.T) {
	hold := func(tx int, text string, m api.Mode) api.Grant { return api.Grant{Tx: tx, At: check.At(text), Mode: m} }
	is := func(tx, state int) []shard.State { return []shard.State{{Tx: tx, State: state}} }
	locked := shard.View{States: is(5, part.Prepared), Held: []api.Grant{hold(5, "3", api.X)}}
	wounded := shard.View{Edges: []api.Edge{{From: 2, Seq: 1, To: 5}, {From: 7, Seq: 1, To: 5}}}
	for i, q := range []struct {
		got   string
		holds bool
	}{
		{unsound(shard.View{}), true},
		{unsound(shard.View{Held: []api.Grant{hold(5, "3", api.X), hold(6, "3.1", api.X), hold(7, "4", api.IS), hold(8, "4", api.S)}}), true},
		{unsound(shard.View{Held: []api.Grant{hold(5, "3", api.S), hold(7, "4", api.IS), hold(8, "3", api.IX)}}), false},
		{unsound(shard.View{Held: []api.Grant{hold(5, "3", api.S), hold(5, "3", api.S)}}), false},
		{unsound(shard.View{States: is(5, part.Committed), Leases: []int{6}, Book: []int{7}, Held: []api.Grant{hold(8, "3", api.X)}}), true},
		{unsound(shard.View{States: is(5, part.Committed), Leases: []int{6, 5}}), false},
		{unsound(shard.View{States: is(5, part.Aborted), Book: []int{5}}), false},
		{unsound(shard.View{States: is(5, part.Aborted), Held: []api.Grant{hold(5, "3", api.S)}}), false},
		{unsound(shard.View{States: is(5, part.Aborted), Waits: []api.Grant{hold(5, "3", api.S)}}), false},
		{unsound(shard.View{States: is(5, part.Committed), Edges: []api.Edge{{From: 1, To: 5}}}), false},
		{unsound(shard.View{States: is(5, part.Expired), Edges: []api.Edge{{From: 1, To: 5}}}), true},
		{lost(locked, locked), true},
		{lost(locked, shard.View{States: is(5, part.Aborted)}), true},
		{lost(locked, shard.View{States: is(5, part.Prepared)}), false},
		{lost(locked, shard.View{States: is(5, part.Active), Held: locked.Held}), false},
		{lost(locked, shard.View{}), false},
		{lost(shard.View{States: is(5, part.Committed)}, shard.View{States: is(5, part.Aborted)}), false},
		{lost(shard.View{States: is(5, part.Active)}, shard.View{}), true},
		{unhurt([]api.Msg{{Kind: api.KWound, Tx: 5, Next: 2}}, wounded, shard.View{}), true},
		{unhurt([]api.Msg{{Kind: api.KWound, Tx: 5, Next: 2}}, shard.View{}), false},
		{unhurt([]api.Msg{{Kind: api.KWound, Tx: 5, Next: 7}}, wounded), false},
		{unhurt([]api.Msg{{Kind: api.KWound, Tx: 5, Next: 3}}, wounded), false},
		{unhurt([]api.Msg{{Kind: api.KVote, Tx: 5, Next: 3}}, shard.View{}), true},
	} {
		if (q.got == "") != q.holds {
			t.Errorf("%d: %q", i, q.got)
		}
	}
}

// sound checks P15.4 of what comes, once, to a shard.
func sound(t *testing.T, s *shard.Shard, m api.Msg) {
	t.Helper()
	before := s.View()
	sent := does(t, s, m)
	after := s.View()
	views := []shard.View{after}
	if isTick(m) { // it tells who is hurt ahead of what ends by it, too
		views = append(views, before)
	}
	for _, broken := range []string{unsound(after), lost(before, after), unhurt(sent, views...)} {
		if broken != "" {
			t.Errorf("%s: by %s, of\n%s, that is\n%s now", broken, check.Sent([]api.Msg{m}), check.Shard(before), check.Shard(after))
		}
	}
	fromHere(t, sent)
}

func TestRunsAreSound(t *testing.T) {
	wrong, n := check.WrongMessages(), 0
	eachRun(func(c api.Config, run []api.Msg) {
		s := made(t, c)
		for _, m := range run {
			n++
			if n%3 == 0 {
				mayNot(t, s, wrong[n%len(wrong)], api.ErrForm)
			}
			sound(t, s, m)
			check.Stop(t)
		}
	})
}

func TestEachThatIsDecidedIsSoWhateverComes(t *testing.T) {
	w := world{3, 3, []string{"1", "1.1", "2"}, check.Modes(), true}
	check.Both(func(c api.Config) {
		c.Lease, c.Resend = 2, 2
		for code := range 2 {
			for _, ahead := range w.all() {
				s := made(t, c)
				for _, m := range []api.Msg{lock(2, 1, "1", api.IX), lock(1, 1, "1", api.IX), lock(2, 2, "1.1", api.X), lock(1, 2, "1.1", api.X), ahead} {
					does(t, s, m)
				}
				does(t, s, decide(1, code))
				does(t, s, decide(2, code))
				for _, m := range w.all() {
					sound(t, s, m)
				}
				check.Stop(t)
			}
		}
	})
}

// A message that comes twice, one behind the other, leaves all as it does once, what isn't told of it, too: so all that is sent later is the same.
func TestWhatComesTwiceIsAsOnce(t *testing.T) {
	eachRun(func(c api.Config, run []api.Msg) {
		once, twice := made(t, c), made(t, c)
		for _, m := range run {
			want, sent := does(t, once, m), does(t, twice, m)
			if !isTick(m) {
				left := twice.View()
				again, err := twice.Handle(m)
				has(t, twice, left)
				if err != nil || slices.ContainsFunc(again, func(m api.Msg) bool { return m.Kind == api.KWound || msg.Ok(m) != nil }) {
					t.Errorf("%s sends %s the second time, %v", check.Sent([]api.Msg{m}), check.Sent(again), err)
				}
			}
			if !slices.Equal(sent, want) {
				t.Errorf("%s sends %s, where all came once %s", check.Sent([]api.Msg{m}), check.Sent(sent), check.Sent(want))
			}
			has(t, twice, once.View())
			check.Stop(t)
		}
	})
}

func TestRunsHangOnWhatCameAlone(t *testing.T) {
	eachRun(func(c api.Config, run []api.Msg) {
		if c.Lease != 5 {
			return
		}
		a, b := made(t, c), made(t, c)
		for _, m := range run {
			if x, y := does(t, a, m), does(t, b, m); !slices.Equal(x, y) {
				t.Errorf("%s and %s", check.Sent(x), check.Sent(y))
			}
			check.Stop(t)
		}
		has(t, a, b.View())
	})
}
