package txn_test

import (
	"slices"
	"testing"

	"catchbolt/api"
	"catchbolt/check"
	"catchbolt/msg"
	"catchbolt/txn"
)

// book is all that was done to a transaction, one behind the other, by which the document's words say what it is; what is refused is not in it.
type book struct {
	tx  int
	all []move
}

// each are the moves of a kind.
func (b book) each(kind int) []move {
	return slices.DeleteFunc(slices.Clone(b.all), func(d move) bool { return d.kind != kind })
}

// touched are the shards of which it ever asked.
func (b book) touched() []int {
	var l []int
	for _, d := range b.each(asks) {
		l = append(l, d.shard)
	}
	return touchedBy(l)
}

// votes are the shards that voted for it.
func (b book) votes() []int {
	var l []int
	for _, d := range b.each(votes) {
		if d.m.Code == 1 {
			l = append(l, d.m.From)
		}
	}
	return touchedBy(l)
}

// acks are the shards that acknowledged its decision.
func (b book) acks() []int {
	var l []int
	for _, d := range b.each(acks) {
		l = append(l, d.m.From)
	}
	return touchedBy(l)
}

// left are those of touched shards that aren't among others.
func (b book) left(others []int) []int {
	return slices.DeleteFunc(b.touched(), func(shard int) bool { return slices.Contains(others, shard) })
}

// reason is why it is aborted, or 0.
func (b book) reason() int {
	for _, d := range b.all {
		if d.kind == aborts {
			return d.reason
		}
		if d.kind == votes && d.m.Code == 0 {
			return 2
		}
	}
	return 0
}

// state is which one it is in.
func (b book) state() int {
	switch {
	case b.reason() != 0:
		return 4
	case len(b.each(finishes)) == 0:
		return 1
	case len(b.left(b.votes())) == 0:
		return 3
	}
	return 2
}

// decided says whether it is decided.
func (b book) decided() bool { return b.state() > 2 }

// open says whether its last request has no answer, and nothing else was done behind it.
func (b book) open() bool { return len(b.all) > 0 && b.all[len(b.all)-1].kind == asks }

// is is the transaction as it is.
func (b book) is() txn.Txn {
	x := txn.Txn{Tx: b.tx, State: b.state(), Reason: b.reason(), Open: b.open(), Touched: b.touched(), Votes: b.votes(), Acks: b.acks()}
	for _, d := range b.all {
		if d.kind == asks {
			x.Seq++
			x.Shard, x.At, x.Mode = d.shard, d.at, d.mode
		}
		if d.kind == answers && d.m.Kind == api.KGranted {
			x.Got = append(x.Got, api.Grant{Tx: b.tx, Seq: x.Seq, At: d.m.At, Mode: d.m.Mode})
		}
	}
	return x
}

// reasonFor is whether an error applies, and which.
type reasonFor struct {
	applies bool
	how     api.Errno
}

// no says whether a message is none of those kinds, or may not be, or is of another transaction.
func (b book) no(m api.Msg, kinds ...int) bool {
	return !slices.Contains(kinds, m.Kind) || msg.Ok(m) != nil || m.Tx != b.tx
}

// against are the errors of a move, in the document's order.
func (b book) against(d move) []reasonFor {
	x := b.is()
	active, untouched := x.State == 1, !slices.Contains(x.Touched, d.m.From)
	switch d.kind {
	case asks:
		may := api.Msg{Kind: api.KLock, To: d.shard, Tx: b.tx, Seq: 1, At: d.at, Mode: d.mode}
		return []reasonFor{{msg.Ok(may) != nil, api.ErrArg}, {!active, api.ErrState}, {x.Open, api.ErrBusy}, {x.Seq == 1048576, api.ErrFull}}
	case answers:
		stale := !x.Open || d.m.Seq != x.Seq || d.m.From != x.Shard || d.m.Kind == api.KGranted && d.m.At != x.At
		return []reasonFor{{b.no(d.m, api.KGranted, api.KRefused), api.ErrForm}, {!active, api.ErrState}, {stale, api.ErrStale}}
	case finishes:
		return []reasonFor{{!active, api.ErrState}, {x.Open, api.ErrBusy}}
	case votes:
		return []reasonFor{{b.no(d.m, api.KVote), api.ErrForm}, {x.State != 2, api.ErrState}, {untouched, api.ErrNone}}
	case aborts:
		return []reasonFor{{d.reason < 1 || d.reason > 5, api.ErrArg}, {b.decided(), api.ErrDone}}
	}
	return []reasonFor{{b.no(d.m, api.KAck), api.ErrForm}, {!b.decided(), api.ErrState}, {untouched, api.ErrNone}}
}

// refusal is the error of a move: the first one that applies; OK is none.
func (b book) refusal(d move) api.Errno {
	for _, r := range b.against(d) {
		if r.applies {
			return r.how
		}
	}
	return api.OK
}

// with is the book, and one move more.
func (b book) with(d move) book {
	return book{tx: b.tx, all: append(slices.Clone(b.all), d)}
}

// toEach is a message for each of those shards.
func toEach(m api.Msg, shards []int) []api.Msg {
	var l []api.Msg
	for _, shard := range shards {
		m.To = shard
		l = append(l, m)
	}
	return l
}

// lock is its last request.
func (b book) lock() []api.Msg {
	x := b.is()
	return []api.Msg{{Kind: api.KLock, To: x.Shard, Tx: x.Tx, Seq: x.Seq, At: x.At, Mode: x.Mode}}
}

// decision is what is told those shards of it.
func (b book) decision(shards []int) []api.Msg {
	return toEach(api.Msg{Kind: api.KDecide, Tx: b.tx, Code: 4 - b.state()}, shards)
}

// prepare is what asks those shards for their votes.
func (b book) prepare(shards []int) []api.Msg {
	return toEach(api.Msg{Kind: api.KPrepare, Tx: b.tx}, shards)
}

// sends is what the last move sends.
func (b book) sends() []api.Msg {
	d, ahead := b.all[len(b.all)-1], book{tx: b.tx, all: b.all[:len(b.all)-1]}
	switch {
	case d.kind == asks:
		return b.lock()
	case b.decided() && !ahead.decided():
		return b.decision(b.touched())
	case b.state() != ahead.state():
		return b.prepare(b.touched())
	}
	return nil
}

// again is what is sent again.
func (b book) again(alive bool) []api.Msg {
	var l []api.Msg
	switch b.state() {
	case 1:
		if b.open() {
			l = b.lock()
		}
		if alive {
			l = append(l, toEach(api.Msg{Kind: api.KRenew, Tx: b.tx}, b.touched())...)
		}
		return l
	case 2:
		return b.prepare(b.left(b.votes()))
	}
	return b.decision(b.left(b.acks()))
}

// both does a move to a book and to its transaction, and checks that both tell the same.
func (b book) both(t *testing.T, x txn.Txn, d move) (book, txn.Txn) {
	t.Helper()
	how, next, sends := b.refusal(d), b, []api.Msg(nil)
	if how == api.OK {
		next = b.with(d)
		sends = next.sends()
	}
	one, sent, err := tried(t, x, d)
	if !check.SameTxn(one, next.is()) || !slices.Equal(sent, sends) || how == api.OK && err != nil || how != api.OK && !check.Plain(err, how) {
		t.Errorf("%+v of %s = %s, %s, %v, want %s, %s, %v", d, check.Txn(x), check.Txn(one), check.SentTo(sent), err, check.Txn(next.is()), check.SentTo(sends), how)
	}
	return next, one
}

// tells checks what a transaction tells without being changed.
func (b book) tells(t *testing.T, x txn.Txn) {
	t.Helper()
	is(t, x, b.decided(), b.decided() && len(b.left(b.acks())) == 0)
	for _, alive := range []bool{false, true} {
		if got, want := txn.Again(x, alive), b.again(alive); !slices.Equal(got, want) {
			t.Errorf("Again(%s, %v) = %s, want %s", check.Txn(x), alive, check.SentTo(got), check.SentTo(want))
		}
	}
}
