package client_test

import (
	"fmt"
	"math"
	"slices"
	"testing"

	"catchbolt/api"
	"catchbolt/check"
	"catchbolt/client"
)

// The kinds of moves.
const (
	begin = iota
	end
	crash
)

// move is what is done to clients: a client begins a transaction, a transaction ends, or a client crashes at a time.
type move struct{ kind, id, tx, now int }

// told does a move to clients.
func told(c *client.Clients, d move) error {
	switch d.kind {
	case begin:
		return c.Begin(d.id, d.tx)
	case end:
		return c.End(d.tx)
	}
	return c.Crash(d.id, d.now)
}

// record is all that happened to so many clients, one behind the other, as the document tells it; what is refused is not in it.
type record struct {
	many int
	all  []move
}

// now is a client's transaction, or 0: the one that it began and that did not end behind that.
func (r *record) now(id int) int {
	tx := 0
	for _, d := range r.all {
		if d.kind == begin && d.id == id {
			tx = d.tx
		}
		if d.kind == end && d.tx == tx {
			tx = 0
		}
	}
	return tx
}

// of is whose a transaction is, or 0.
func (r *record) of(tx int) int {
	for id := 1; id <= r.many; id++ {
		if tx != 0 && r.now(id) == tx {
			return id
		}
	}
	return 0
}

// dead says whether a client is dead, and since when.
func (r *record) dead(id int) (int, bool) {
	place := slices.IndexFunc(r.all, func(d move) bool { return d.kind == crash && d.id == id })
	if place < 0 {
		return 0, false
	}
	return r.all[place].now, true
}

// lost are the transactions of those that are dead for so many ticks.
func (r *record) lost(now, span int) []int {
	var l []int
	for id := 1; id <= r.many; id++ {
		since, dead := r.dead(id)
		if dead && r.now(id) != 0 && now >= 0 && now <= maxTime && span >= 0 && since+min(span, maxTime+1) <= now {
			l = append(l, r.now(id))
		}
	}
	return rising(l)
}

// asked is whether an error applies, and which.
type asked struct {
	applies bool
	how     api.Errno
}

// asks are the errors of a move, in the document's order.
func (r *record) asks(d move) []asked {
	_, dead := r.dead(d.id)
	none := d.id < 1 || d.id > r.many
	switch d.kind {
	case begin:
		return []asked{
			{none, api.ErrNone},
			{d.tx < 1 || d.tx > 1048576, api.ErrArg},
			{dead, api.ErrState},
			{r.now(d.id) != 0, api.ErrBusy},
			{r.of(d.tx) != 0, api.ErrDone},
		}
	case end:
		return []asked{{r.of(d.tx) == 0, api.ErrNone}}
	}
	return []asked{{none, api.ErrNone}, {d.now < 0 || d.now > maxTime, api.ErrArg}, {dead, api.ErrState}}
}

// refusal is the error of a move: the first one that applies; OK is none.
func (r *record) refusal(d move) api.Errno {
	for _, a := range r.asks(d) {
		if a.applies {
			return a.how
		}
	}
	return api.OK
}

// do does a move to a record alone: its error.
func (r *record) do(d move) api.Errno {
	how := r.refusal(d)
	if how == api.OK {
		r.all = append(r.all, d)
	}
	return how
}

// both does a move to a record and to clients, and checks that both tell the same.
func (r *record) both(t *testing.T, c *client.Clients, d move) {
	t.Helper()
	before := r.state()
	how := r.do(d)
	if err := told(c, d); how == api.OK && err != nil || how != api.OK && !check.Plain(err, how) {
		t.Errorf("%+v = %v, want %v, of %s", d, err, how, before)
	}
}

// state is what each client has and is, as a text.
func (r *record) state() string {
	text := ""
	for id := 1; id <= r.many; id++ {
		since, dead := r.dead(id)
		text += fmt.Sprint(id, r.now(id), since, dead, ";")
	}
	return text
}

// same checks that clients tell what a record tells, of some near them, too, of those transactions, and of those times and spans.
func (r *record) same(t *testing.T, c *client.Clients, txs, nows, spans []int) {
	t.Helper()
	for id := -1; id <= r.many+2; id++ {
		tx, err := c.Now(id)
		if want := r.now(id); tx != want || (err == nil) != (want != 0) || want == 0 && !check.Plain(err, api.ErrNone) {
			t.Errorf("Now(%d) = %d, %v, of %s", id, tx, err, r.state())
		}
		if _, dead := r.dead(id); c.Alive(id) != (id >= 1 && id <= r.many && !dead) {
			t.Errorf("Alive(%d) = %v, of %s", id, c.Alive(id), r.state())
		}
	}
	for _, tx := range txs {
		id, err := c.Of(tx)
		if want := r.of(tx); id != want || (err == nil) != (want != 0) || want == 0 && !check.Plain(err, api.ErrNone) {
			t.Errorf("Of(%d) = %d, %v, of %s", tx, id, err, r.state())
		}
	}
	for _, now := range nows {
		for _, span := range spans {
			if l, want := c.Lost(now, span), r.lost(now, span); !slices.Equal(l, want) {
				t.Errorf("Lost(%d, %d) = %v, want %v, of %s", now, span, l, want, r.state())
			}
		}
	}
}

// moves are all of those clients, transactions and times.
func moves(ids, txs, nows []int) []move {
	var all []move
	for _, id := range ids {
		for _, tx := range txs {
			all = append(all, move{kind: begin, id: id, tx: tx})
		}
		for _, now := range nows {
			all = append(all, move{kind: crash, id: id, now: now})
		}
	}
	for _, tx := range txs {
		all = append(all, move{kind: end, tx: tx})
	}
	return all
}

// eachState calls f with moves of a list by which each state comes about to which these can bring so many clients.
func eachState(many int, all []move, f func(ahead []move)) int {
	seen := map[string]bool{}
	next := [][]move{nil}
	for len(next) > 0 {
		r := record{many: many, all: next[0]}
		next = next[1:]
		if seen[r.state()] {
			continue
		}
		seen[r.state()] = true
		f(r.all)
		for _, d := range all {
			if r.refusal(d) == api.OK {
				next = append(next, append(slices.Clone(r.all), d))
			}
		}
	}
	return len(seen)
}

// P16.1 and P16.2, by what both tell.

func TestEachMoveFromEachState(t *testing.T) {
	for _, q := range []struct {
		many, states int // states: by who has which of the transactions, or none, no two the same, and who is dead since which time, or alive
		txs, nows    []int
	}{
		{1, 3 * 4, []int{0, 1, 1048576, 1048577}, []int{-1, 0, 2, maxTime, maxTime + 1}},
		{2, 7 * 9, []int{0, 7, 8, -1}, []int{-1, 0, 3}},
		{3, 34 * 8, []int{0, 5, 6, 7}, []int{-1, 1}},
	} {
		every := moves(check.UpTo(-1, q.many+2), q.txs, q.nows)
		nows := append([]int{1, 2, 3, 4}, q.nows...)
		states := eachState(q.many, every, func(ahead []move) {
			for _, d := range every {
				c, r := made(t, q.many), record{many: q.many}
				for _, one := range append(slices.Clone(ahead), d) {
					r.both(t, c, one)
				}
				r.same(t, c, q.txs, nows, []int{-1, 0, 1, 2, 3, maxTime, math.MaxInt64})
				check.Stop(t)
			}
		})
		if states != q.states {
			t.Errorf("%d clients: %d states", q.many, states)
		}
	}
}

// picked is a move by chance, of so many clients, and of transactions and times up to those; of few of them it may not be.
func picked(by *uint64, many, txs, nows int) move {
	d := move{kind: check.Next(by) % 2, id: 1 + check.Next(by)%many, tx: 1 + check.Next(by)%txs, now: check.Next(by) % (nows + 1)}
	if check.Next(by)%20 == 0 {
		d.kind = crash
	}
	wrongs := wrong(many)
	switch check.Next(by) % 30 {
	case 0:
		d.id = wrongs[check.Next(by)%len(wrongs)]
	case 1:
		d.tx = wrongNumbers[check.Next(by)%len(wrongNumbers)]
	case 2:
		d.now = noTimes[check.Next(by)%len(noTimes)]
	}
	return d
}

// eachRun calls f with moves by chance: of each number of clients, of few transactions and of many, and of few times and of many, of so many moves each.
func eachRun(runs, length int, f func(many, txs, nows int, all []move)) {
	by := uint64(16)
	for range runs {
		for many := 1; many <= 8; many++ {
			for _, txs := range []int{2, 5, 20, 1048576} {
				nows := []int{3, 20, maxTime}[check.Next(&by)%3]
				var all []move
				for range length {
					all = append(all, picked(&by, many, txs, nows))
				}
				f(many, txs, nows, all)
			}
		}
	}
}

func TestRunsAgainstARecord(t *testing.T) {
	eachRun(3, 120, func(many, txs, nows int, all []move) {
		c, r := made(t, many), record{many: many}
		for _, d := range all {
			r.both(t, c, d)
			r.same(t, c, append(check.UpTo(-1, 6), d.tx), []int{-1, 0, 2, d.now, nows, maxTime}, []int{-1, 0, 1, 10, nows / 2})
			check.Stop(t)
		}
	})
}

// P16.3

// seen is what clients told by their calls: which transactions each has, and whose each is, as it was begun and not ended since; and who crashed.
type seen struct {
	has, whose map[int][]int
	dead       map[int]bool
}

// none has seen nothing.
func none() *seen {
	return &seen{has: map[int][]int{}, whose: map[int][]int{}, dead: map[int]bool{}}
}

// note is that a move was told to be done.
func (s *seen) note(d move) {
	switch d.kind {
	case begin:
		s.has[d.id] = append(s.has[d.id], d.tx)
		s.whose[d.tx] = append(s.whose[d.tx], d.id)
	case end:
		for id := range s.has {
			s.has[id] = slices.DeleteFunc(s.has[id], func(tx int) bool { return tx == d.tx })
		}
		delete(s.whose, d.tx)
	case crash:
		s.dead[d.id] = true
	}
}

// holds checks P16.3 of so many clients, by what was seen and by what they tell.
func (s *seen) holds(t *testing.T, c *client.Clients, many int) {
	t.Helper()
	for id, txs := range s.has {
		if len(txs) > 1 || len(txs) == 1 && id < 1 || len(txs) == 1 && id > many {
			t.Errorf("client %d has %v", id, txs)
		}
	}
	for tx, ids := range s.whose {
		if len(ids) > 1 {
			t.Errorf("transaction %d is of %v", tx, ids)
		}
	}
	whose := map[int]int{}
	for id := 1; id <= many; id++ {
		tx, err := c.Now(id)
		if err == nil && whose[tx] != 0 {
			t.Errorf("transaction %d is of %d and of %d", tx, whose[tx], id)
		}
		if err == nil {
			whose[tx] = id
		}
		if (err == nil) != (len(s.has[id]) == 1) || err == nil && s.has[id][0] != tx {
			t.Errorf("Now(%d) = %d, %v, and it has %v", id, tx, err, s.has[id])
		}
		if c.Alive(id) == s.dead[id] {
			t.Errorf("Alive(%d) = %v, and crashed: %v", id, c.Alive(id), s.dead[id])
		}
	}
	for tx, id := range whose {
		has(t, c, id, tx)
	}
}

// run does moves to clients, one behind the other, asks all that they tell between, and checks P16.3 behind each.
func run(t *testing.T, many int, all []move) {
	t.Helper()
	c, s := made(t, many), none()
	for _, d := range all {
		crashed := s.dead[d.id]
		err := told(c, d)
		if err == nil {
			s.note(d)
		}
		if crashed && err == nil && d.kind != end {
			t.Errorf("%+v is done by one who is dead", d)
		}
		check.Spoil(c.Lost(d.now, d.now/2), d.tx)
		c.Lost(maxTime, 0)
		s.holds(t, c, many)
	}
	check.Stop(t)
}

func TestNoTwoAreOneAndTheDeadStaySo(t *testing.T) {
	eachRun(40, 150, func(many, _, _ int, all []move) { run(t, many, all) })
}

func TestEachRunOfTwo(t *testing.T) {
	all := moves([]int{1, 2}, []int{7, 8}, []int{5})
	runs := 1
	for range 5 {
		runs *= len(all)
	}
	for n := range runs {
		var these []move
		for range 5 {
			these = append(these, all[n%len(all)])
			n /= len(all)
		}
		run(t, 2, these)
	}
}
