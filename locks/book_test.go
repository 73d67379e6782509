package locks_test

import (
	"errors"
	"slices"
	"testing"

	"catchbolt/api"
	"catchbolt/check"
	"catchbolt/locks"
	"catchbolt/mode"
	"catchbolt/spot"
)

// book are locks as the document tells them: spots alone, one at each of some resources, which are gone over for all that is asked.
type book struct {
	slots, queue int
	places       []api.Res
	spots        map[api.Res]*spot.Spot
}

// opened is a book of the resources of those texts, that stand in order, and new locks beside it.
func opened(t *testing.T, slots, queue int, texts ...string) (*book, *locks.Locks) {
	t.Helper()
	b := &book{slots: slots, queue: queue, spots: map[api.Res]*spot.Spot{}}
	for _, text := range texts {
		s, err := spot.New(queue)
		if err != nil {
			t.Fatalf("New(%d) = %v", queue, err)
		}
		b.places = append(b.places, check.At(text))
		b.spots[check.At(text)] = s
	}
	return b, nobody(t, slots, queue)
}

// used is how many holders and waiting ones there are.
func (b *book) used() int {
	many := 0
	for _, s := range b.spots {
		many += len(s.Holders()) + len(s.Waiting())
	}
	return many
}

// all are the resources at which somebody is.
func (b *book) all() []api.Res {
	var all []api.Res
	for _, r := range b.places {
		if s := b.spots[r]; len(s.Holders())+len(s.Waiting()) > 0 {
			all = append(all, r)
		}
	}
	return all
}

// wait is what a transaction waits for, if it does.
func (b *book) wait(tx int) (api.Grant, bool) {
	for r, s := range b.spots {
		for _, w := range s.Waiting() {
			if w.Tx == tx {
				return api.Grant{Tx: tx, Seq: w.Seq, At: r, Mode: w.Mode}, true
			}
		}
	}
	return api.Grant{}, false
}

// has are a transaction's locks.
func (b *book) has(tx int) []api.Grant {
	var all []api.Grant
	for _, r := range b.places {
		for _, h := range b.spots[r].Holders() {
			if h.Tx == tx {
				all = append(all, api.Grant{Tx: tx, At: r, Mode: h.Mode})
			}
		}
	}
	return all
}

// edges are who waits for whom, of transactions up to that one.
func (b *book) edges(txs int) []api.Edge {
	var all []api.Edge
	for from := 1; from <= txs; from++ {
		w, waits := b.wait(from)
		if !waits {
			continue
		}
		for _, e := range b.spots[w.At].Edges() {
			if e.From == from {
				all = append(all, e)
			}
		}
	}
	return all
}

// move is what is done to locks: a request for a mode, or, of None, that the transaction is freed.
type move struct {
	tx, seq int
	at      api.Res
	m       api.Mode
}

// hasTable says whether a transaction has what a request needs of its table, whose mode must be one that a row may have.
func (b *book) hasTable(d move) bool {
	need, _ := mode.Need(d.m)
	return mode.Covers(b.spots[api.Res{Table: d.at.Table}].Mode(d.tx), need)
}

// ask is a request that may be; OK is no error.
func (b *book) ask(d move) (bool, api.Errno) {
	row, s := d.at.Row > 0, b.spots[d.at]
	if row && d.m != api.S && d.m != api.X {
		return false, api.ErrMode
	}
	if _, waits := b.wait(d.tx); waits {
		return false, api.ErrBusy
	}
	if row && !b.hasTable(d) {
		return false, api.ErrIntent
	}
	if b.used()+s.More(d.tx, d.m) > b.slots {
		return false, api.ErrFull
	}
	granted, err := s.Ask(d.tx, d.seq, d.m)
	if errors.Is(err, api.ErrLong) {
		return false, api.ErrLong
	}
	return granted, api.OK
}

// free frees a transaction: what is granted by that.
func (b *book) free(tx int) []api.Grant {
	var granted []api.Grant
	for _, r := range b.places {
		up, _ := b.spots[r].Free(tx)
		for _, w := range up {
			granted = append(granted, api.Grant{Tx: w.Tx, Seq: w.Seq, At: r, Mode: w.Mode})
		}
	}
	return granted
}

// do does a move to a book alone.
func (b *book) do(d move) {
	if d.m == api.None {
		b.free(d.tx)
	} else {
		b.ask(d)
	}
}

// both does a move to a book and to locks, and checks that both answer the same.
func (b *book) both(t *testing.T, l *locks.Locks, d move) {
	t.Helper()
	if d.m == api.None {
		frees(t, l, d.tx, check.Granted(b.free(d.tx)))
		return
	}
	granted, want := b.ask(d)
	got, err := l.Ask(d.tx, d.seq, d.at, d.m)
	if got != granted || want == api.OK && err != nil || want != api.OK && !check.Refusal(err, d.tx, d.at, want) {
		t.Errorf("Ask(%d, %d, %s, %s) = %v, %v, want %v, %v, now %s", d.tx, d.seq, check.Res(d.at), check.Mode(d.m), got, err, granted, want, of(l))
	}
}

// same checks that locks and a book tell the same, of transactions up to that one, and that it is as the document says that locks are.
func (b *book) same(t *testing.T, l *locks.Locks, txs int) {
	t.Helper()
	if all := b.all(); !slices.Equal(l.All(), all) {
		t.Errorf("All() = %v, want %v", l.All(), all)
	}
	for _, r := range b.places {
		if s := b.spots[r]; !slices.Equal(l.Holders(r), s.Holders()) || !slices.Equal(l.Waiting(r), s.Waiting()) {
			t.Errorf("%v: %v and %v, want %v and %v", r, l.Holders(r), l.Waiting(r), s.Holders(), s.Waiting())
		}
	}
	if want := b.edges(txs); !slices.Equal(l.Edges(), want) {
		edges(t, l, check.Edged(want))
	}
	for tx := 1; tx <= txs; tx++ {
		b.sameOf(t, l, tx)
	}
	used(t, l, b.used())
	sound(t, l, b.slots)
}

// sameOf checks that locks and a book tell the same of a transaction.
func (b *book) sameOf(t *testing.T, l *locks.Locks, tx int) {
	t.Helper()
	if want := b.has(tx); !slices.Equal(l.Has(tx), want) {
		has(t, l, tx, check.Granted(want))
	}
	for _, r := range b.places {
		isMode(t, l, tx, r, b.spots[r].Mode(tx))
	}
	want, waits := b.wait(tx)
	if !waits {
		waitsNowhere(t, l, tx, api.ErrNone)
	} else if got, err := l.Wait(tx); got != want || err != nil {
		t.Errorf("Wait(%d) = %v, %v, want %v", tx, got, err, want)
	}
}

// sound checks P9.5.
func sound(t *testing.T, l *locks.Locks, slots int) {
	t.Helper()
	if l.Used() > slots {
		t.Errorf("%d of %d slots are used, of %s", l.Used(), slots, of(l))
	}
	waiting := map[int]bool{}
	for _, r := range l.All() {
		holders := l.Holders(r)
		for i, h := range holders {
			if !hasItsTable(l, h, r) {
				t.Errorf("%v has %v without its table, of %s", h, r, of(l))
			}
			if slices.ContainsFunc(holders[:i], func(o api.Hold) bool { return o.Tx == h.Tx || !mode.Together(o.Mode, h.Mode) }) {
				t.Errorf("%v doesn't go together with all at %v, of %s", h, r, of(l))
			}
		}
		for _, w := range l.Waiting(r) {
			if waiting[w.Tx] {
				t.Errorf("%d waits twice, of %s", w.Tx, of(l))
			}
			waiting[w.Tx] = true
		}
	}
}

// hasItsTable says whether one that has a resource has its table as that needs.
func hasItsTable(l *locks.Locks, h api.Hold, r api.Res) bool {
	if r.Row == 0 {
		return true
	}
	need, err := mode.Need(h.Mode)
	return err == nil && mode.Covers(l.Mode(h.Tx, api.Res{Table: r.Table}), need)
}

// eachMove are all moves of so many transactions, at those places.
func eachMove(txs int, places []api.Res) []move {
	var all []move
	for tx := 1; tx <= txs; tx++ {
		all = append(all, move{tx: tx})
		for i, r := range places {
			for _, m := range modes {
				all = append(all, move{tx, 100*tx + 10*i + int(m), r, m})
			}
		}
	}
	return all
}

// state is all that a book has, as a text.
func (b *book) state() string {
	text := ""
	for _, r := range b.places {
		text += check.Held(b.spots[r].Holders()) + "|" + check.Queued(b.spots[r].Waiting()) + ";"
	}
	return text
}

// eachState calls f with moves by which each state comes about that so many transactions can bring locks to, and with all moves that there are.
func eachState(t *testing.T, slots, queue, txs int, texts []string, f func(moves, all []move)) int {
	t.Helper()
	seen := map[string]bool{}
	next := [][]move{nil}
	for len(next) > 0 {
		moves := next[0]
		next = next[1:]
		b, _ := opened(t, slots, queue, texts...)
		for _, d := range moves {
			b.do(d)
		}
		if seen[b.state()] {
			continue
		}
		seen[b.state()] = true
		all := eachMove(txs, b.places)
		f(moves, all)
		for _, d := range all {
			next = append(next, append(slices.Clone(moves), d))
		}
	}
	return len(seen)
}

// P9.1 to P9.4, by what both answer and tell, and P9.5, by what is sound.

func TestEachMoveFromEachState(t *testing.T) {
	for _, q := range []struct {
		slots, queue, txs int
		texts             []string
	}{
		{3, 1, 2, []string{"1", "1.1"}},
		{6, 2, 2, []string{"1", "1.1"}},
		{4, 1, 2, []string{"1", "1.1", "2"}},
		{6, 1, 2, []string{"3", "7"}},
		{4, 1, 3, []string{"1", "1.1"}},
	} {
		states := eachState(t, q.slots, q.queue, q.txs, q.texts, func(moves, all []move) {
			for _, d := range all {
				b, l := opened(t, q.slots, q.queue, q.texts...)
				for _, ahead := range moves {
					b.both(t, l, ahead)
				}
				b.both(t, l, d)
				b.same(t, l, q.txs+1)
				check.Stop(t)
			}
		})
		t.Logf("%d states of %d transactions at %v, with %d slots", states, q.txs, q.texts, q.slots)
	}
}

// picked is a move by some bits: most are requests, at rows more often than not.
func picked(by uint64, txs, seq int, places []api.Res) move {
	d := move{tx: 1 + int(by>>33%uint64(txs)), seq: seq, at: places[by>>48%uint64(len(places))], m: api.Mode(by >> 60 % 8)}
	if d.m > api.X { // half of all that is asked of tables are the modes that go together with most
		d.m -= api.X
	}
	if d.at.Row > 0 && d.m != api.None && by>>40&3 != 0 {
		d.m = modes[2+d.m%2]
	}
	return d
}

func TestScriptsAgainstABook(t *testing.T) {
	texts := []string{"1", "1.1", "1.2", "1.10", "2", "2.1", "3", "20", "20.1", "250", "250.250"}
	for _, slots := range []int{2, 5, 9, 20, 50, 4096} {
		for _, queue := range []int{1, 2, 5, 64} {
			for _, txs := range []int{3, 8, 20} {
				b, l := opened(t, slots, queue, texts...)
				by := uint64(slots*1000000 + queue*1000 + txs)
				for i := range 400 {
					by = by*6364136223846793005 + 1442695040888963407
					b.both(t, l, picked(by, txs, 1+i, b.places))
					b.same(t, l, txs+1)
					check.Stop(t)
				}
				for tx := 1; tx <= txs; tx++ {
					b.both(t, l, move{tx: tx})
					b.same(t, l, txs+1)
				}
				tells(t, l, "")
				check.Stop(t)
			}
		}
	}
}
