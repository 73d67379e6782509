package spot_test

import (
	"slices"
	"testing"

	"catchbolt/api"
	"catchbolt/check"
	"catchbolt/mode"
	"catchbolt/spot"
)

// book is a spot as the document tells it.
type book struct {
	limit   int
	holders []api.Hold
	waiting []api.Wait
}

// mode is what a transaction has.
func (b *book) mode(tx int) api.Mode {
	for _, h := range b.holders {
		if h.Tx == tx {
			return h.Mode
		}
	}
	return api.None
}

// waits says whether a transaction waits.
func (b *book) waits(tx int) bool {
	return slices.ContainsFunc(b.waiting, func(w api.Wait) bool { return w.Tx == tx })
}

// canHave says whether a mode can be had by a transaction.
func (b *book) canHave(tx int, m api.Mode) bool {
	for _, h := range b.holders {
		if h.Tx != tx && !mode.Together(h.Mode, m) {
			return false
		}
	}
	return true
}

// give lets a transaction have a mode.
func (b *book) give(tx int, m api.Mode) {
	for i, h := range b.holders {
		if h.Tx == tx {
			b.holders[i].Mode = m
			return
		}
	}
	b.holders = append(b.holders, api.Hold{Tx: tx, Mode: m})
}

// ask is a request that may be; OK is no error.
func (b *book) ask(tx, seq int, m api.Mode) (bool, api.Errno) {
	if b.waits(tx) {
		return false, api.ErrBusy
	}
	now := b.mode(tx)
	aim := least(now, m)
	switch {
	case now == aim:
		return true, api.OK
	case b.canHave(tx, aim) && (now != api.None || len(b.waiting) == 0):
		b.give(tx, aim)
		return true, api.OK
	case len(b.waiting) == b.limit:
		return false, api.ErrLong
	}
	w := api.Wait{Tx: tx, Seq: seq, Mode: aim, Up: now != api.None}
	place := len(b.waiting)
	for w.Up && place > 0 && !b.waiting[place-1].Up {
		place--
	}
	b.waiting = slices.Insert(b.waiting, place, w)
	return false, api.OK
}

// free lets a transaction go: who is granted by that, and whether there was anything of it.
func (b *book) free(tx int) ([]api.Wait, bool) {
	if b.mode(tx) == api.None && !b.waits(tx) {
		return nil, false
	}
	b.holders = slices.DeleteFunc(b.holders, func(h api.Hold) bool { return h.Tx == tx })
	b.waiting = slices.DeleteFunc(b.waiting, func(w api.Wait) bool { return w.Tx == tx })
	var granted []api.Wait
	for len(b.waiting) > 0 && b.canHave(b.waiting[0].Tx, b.waiting[0].Mode) {
		w := b.waiting[0]
		b.waiting = b.waiting[1:]
		b.give(w.Tx, w.Mode)
		granted = append(granted, w)
	}
	return granted, true
}

// edges are who waits for whom, of transactions up to that one.
func (b *book) edges(txs int) []api.Edge {
	var all []api.Edge
	for from := 1; from <= txs; from++ {
		place := slices.IndexFunc(b.waiting, func(w api.Wait) bool { return w.Tx == from })
		if place < 0 {
			continue
		}
		w := b.waiting[place]
		for to := 1; to <= txs; to++ {
			ahead := slices.IndexFunc(b.waiting[:place], func(w api.Wait) bool { return w.Tx == to })
			switch {
			case to != from && !mode.Together(b.mode(to), w.Mode):
				all = append(all, api.Edge{From: from, Seq: w.Seq, To: to})
			case ahead >= 0:
				all = append(all, api.Edge{From: from, Seq: w.Seq, To: to, ToSeq: b.waiting[ahead].Seq})
			}
		}
	}
	return all
}

// more is how many more there would be, were a transaction to ask for a mode: it is counted, in a book of its own that has room.
func (b *book) more(tx int, m api.Mode) int {
	own := &book{len(b.waiting) + 1, slices.Clone(b.holders), slices.Clone(b.waiting)}
	own.ask(tx, 1, m)
	return len(own.holders) + len(own.waiting) - len(b.holders) - len(b.waiting)
}

// of is all that a book tells, as a text, of transactions up to that one.
func (b *book) of(txs int) string {
	return check.Held(b.holders) + " | " + check.Queued(b.waiting) + " | " + check.Edged(b.edges(txs))
}

// same checks that a spot and a book tell the same, of transactions up to that one, and that it is as the document says that spots are.
func (b *book) same(t *testing.T, s *spot.Spot, txs int) {
	t.Helper()
	if !slices.Equal(s.Holders(), b.holders) || !slices.Equal(s.Waiting(), b.waiting) || !slices.Equal(s.Edges(), b.edges(txs)) {
		tells(t, s, b.of(txs))
	}
	for tx := 1; tx <= txs; tx++ {
		has(t, s, tx, b.mode(tx))
		for _, m := range modes {
			more(t, s, tx, m, b.more(tx, m))
		}
	}
	sound(t, s)
}

// sound checks P8.4, and that nobody is there twice.
func sound(t *testing.T, s *spot.Spot) {
	t.Helper()
	holders, waiting, edges := s.Holders(), s.Waiting(), s.Edges()
	for i, h := range holders {
		for _, o := range holders[:i] {
			if o.Tx == h.Tx || !mode.Together(o.Mode, h.Mode) {
				t.Errorf("%v and %v hold it, of %s", o, h, of(s))
			}
		}
	}
	for i, w := range waiting {
		if i == 0 && !slices.ContainsFunc(holders, func(h api.Hold) bool { return h.Tx != w.Tx && !mode.Together(h.Mode, w.Mode) }) {
			t.Errorf("%v is the first one, and waits though it can have its mode, of %s", w, of(s))
		}
		if !slices.ContainsFunc(edges, func(e api.Edge) bool { return e.From == w.Tx && e.Seq == w.Seq && e.To != w.Tx }) {
			t.Errorf("%v waits for nobody, of %s", w, of(s))
		}
		if slices.ContainsFunc(waiting[:i], func(o api.Wait) bool { return o.Tx == w.Tx }) {
			t.Errorf("%d waits twice, of %s", w.Tx, of(s))
		}
	}
}

// move is what is done to a spot: a request for a mode, or, of None, that the transaction is freed.
type move struct {
	tx, seq int
	m       api.Mode
}

// do does a move to a book and a spot, and checks that both answer the same.
func (b *book) do(t *testing.T, s *spot.Spot, d move) {
	t.Helper()
	if d.m != api.None {
		granted, want := b.ask(d.tx, d.seq, d.m)
		if got, err := s.Ask(d.tx, d.seq, d.m); got != granted || want == api.OK && err != nil || want != api.OK && !check.Plain(err, want) {
			t.Errorf("Ask(%d, %d, %s) = %v, %v, want %v, %v, now %s", d.tx, d.seq, check.Mode(d.m), got, err, granted, want, of(s))
		}
		return
	}
	if granted, ok := b.free(d.tx); ok {
		frees(t, s, d.tx, check.Queued(granted))
	} else {
		freesNone(t, s, d.tx, api.ErrNone)
	}
}

// played are a book and a spot to which those moves were done.
func played(t *testing.T, limit int, moves []move) (*book, *spot.Spot) {
	t.Helper()
	b, s := &book{limit: limit}, nobody(t, limit)
	for _, d := range moves {
		b.do(t, s, d)
	}
	return b, s
}

// eachMove are all moves of so many transactions.
func eachMove(txs int) []move {
	var all []move
	for tx := 1; tx <= txs; tx++ {
		for m := api.None; m <= api.X; m++ {
			all = append(all, move{tx, 10*tx + int(m), m})
		}
	}
	return all
}

// eachState calls f with moves by which each state comes about that so many transactions can bring a spot of that limit to.
func eachState(limit, txs int, f func(moves []move)) {
	seen := map[string]bool{}
	next := [][]move{nil}
	for len(next) > 0 {
		moves := next[0]
		next = next[1:]
		b := &book{limit: limit}
		for _, d := range moves {
			if d.m == api.None {
				b.free(d.tx)
			} else {
				b.ask(d.tx, d.seq, d.m)
			}
		}
		if seen[b.of(txs)] {
			continue
		}
		seen[b.of(txs)] = true
		f(moves)
		for _, d := range eachMove(txs) {
			next = append(next, append(slices.Clone(moves), d))
		}
	}
}

// P8.1 to P8.4, by what both answer and tell, and by what is sound.

func TestEachMoveFromEachState(t *testing.T) {
	for _, q := range [][2]int{{1, 2}, {2, 2}, {1, 3}, {2, 3}, {3, 3}} {
		limit, txs := q[0], q[1]
		states := 0
		eachState(limit, txs, func(moves []move) {
			states++
			for _, d := range eachMove(txs) {
				b, s := played(t, limit, moves)
				b.do(t, s, d)
				b.same(t, s, txs+1)
				check.Stop(t)
			}
		})
		t.Logf("%d states of %d transactions, by a line for %d", states, txs, limit)
	}
}

func TestScriptsAgainstABook(t *testing.T) {
	for _, limit := range []int{1, 2, 3, 5, 8, 20, 63, 64} {
		for _, txs := range []int{3, 5, limit + 2, 2*limit + 1} {
			b, s := played(t, limit, nil)
			by := uint64(limit*1000 + txs)
			for i := range 400 {
				by = by*6364136223846793005 + 1442695040888963407
				d := move{1 + int(by>>33%uint64(txs)), 1 + i, api.Mode(by >> 60 % 8)}
				if d.m > api.X { // half of all that is asked are the modes that go together with most
					d.m -= api.X
				}
				b.do(t, s, d)
				b.same(t, s, txs+1)
				check.Stop(t)
			}
		}
	}
}

// P8.5

// emptied checks that a spot has nobody, and is as a new one.
func emptied(t *testing.T, s *spot.Spot, limit, txs int) {
	t.Helper()
	tells(t, s, " |  | ")
	for tx := 1; tx <= txs; tx++ {
		freesNone(t, s, tx, api.ErrNone)
		has(t, s, tx, api.None)
		more(t, s, tx, api.X, 1)
	}
	grants(t, s, 1000, api.X)
	for tx := 1; tx <= limit; tx++ {
		waits(t, s, tx, api.S)
	}
	refuses(t, s, limit+1, 1, api.S, api.ErrLong)
}

func TestFreedOfAllInEachOrder(t *testing.T) {
	orders := [][]int{{1, 2, 3}, {1, 3, 2}, {2, 1, 3}, {2, 3, 1}, {3, 1, 2}, {3, 2, 1}}
	eachState(3, 3, func(moves []move) {
		for _, order := range orders {
			_, s := played(t, 3, moves)
			for _, tx := range order {
				s.Free(tx)
			}
			emptied(t, s, 3, 3)
			check.Stop(t)
		}
	})
}

func TestFreedOfMany(t *testing.T) {
	for start := range 7 {
		s := nobody(t, 64)
		for tx := 1; tx <= 100; tx++ {
			grants(t, s, tx, api.IS)
		}
		for tx := 70; tx <= 133; tx++ {
			s.Ask(tx, 1, modes[tx%4])
		}
		for i := range 133 {
			s.Free(1 + (i*50+start)%133)
		}
		emptied(t, s, 64, 133)
	}
}
