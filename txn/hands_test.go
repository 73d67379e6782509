package txn_test

import (
	"slices"
	"testing"

	"catchbolt/api"
	"catchbolt/check"
	"catchbolt/txn"
)

// mine is the number of most tests' transaction.
const mine = 7

// The kinds of moves.
const (
	asks = iota
	answers
	finishes
	votes
	aborts
	acks
	kinds
)

// move is a call that makes another transaction of one, with what it is called.
type move struct {
	kind   int
	shard  int
	at     api.Res
	mode   api.Mode
	m      api.Msg
	reason int
}

// The moves.

func ask(shard int, text string, m api.Mode) move {
	return move{kind: asks, shard: shard, at: check.At(text), mode: m}
}

func answer(m api.Msg) move { return move{kind: answers, m: m} }

func finish() move { return move{kind: finishes} }

func vote(m api.Msg) move { return move{kind: votes, m: m} }

func abort(reason int) move { return move{kind: aborts, reason: reason} }

func ack(m api.Msg) move { return move{kind: acks, m: m} }

// The messages of the usual transaction, from a shard.

func granted(shard, seq int, text string, m api.Mode) api.Msg {
	return api.Msg{Kind: api.KGranted, From: shard, Tx: mine, Seq: seq, At: check.At(text), Mode: m}
}

func refused(shard, seq, code int) api.Msg {
	return api.Msg{Kind: api.KRefused, From: shard, Tx: mine, Seq: seq, Code: code}
}

func voted(shard, code int) api.Msg {
	return api.Msg{Kind: api.KVote, From: shard, Tx: mine, Code: code}
}

func acked(shard int) api.Msg { return api.Msg{Kind: api.KAck, From: shard, Tx: mine} }

// of is a message of another transaction.
func of(tx int, m api.Msg) api.Msg {
	m.Tx = tx
	return m
}

// yes, and heard, are the votes for it, and the acknowledgements, of those shards.
func yes(shards ...int) []move {
	var all []move
	for _, shard := range shards {
		all = append(all, vote(voted(shard, 1)))
	}
	return all
}

func heard(shards ...int) []move {
	var all []move
	for _, shard := range shards {
		all = append(all, ack(acked(shard)))
	}
	return all
}

// three are requests of three shards, answered, not in the shards' order; one is refused.
func three() []move {
	return []move{
		ask(5, "5", api.S), answer(granted(5, 1, "5", api.S)),
		ask(2, "2.1", api.X), answer(refused(2, 2, 9)),
		ask(9, "9", api.IX), answer(granted(9, 3, "9", api.IX)),
	}
}

// copied is a list as new memory, with some room behind it.
func copied[E any](l []E) []E {
	return append(make([]E, 0, len(l)+3), l...)
}

// roomy is a transaction whose lists are new memory, with some room behind each.
func roomy(x txn.Txn) txn.Txn {
	x.Touched, x.Votes, x.Acks, x.Got = copied(x.Touched), copied(x.Votes), copied(x.Acks), copied(x.Got)
	return x
}

// whole is a transaction with its lists' rooms.
func whole(x txn.Txn) txn.Txn {
	x.Touched, x.Votes, x.Acks = x.Touched[:cap(x.Touched)], x.Votes[:cap(x.Votes)], x.Acks[:cap(x.Acks)]
	x.Got = x.Got[:cap(x.Got)]
	return x
}

// told is what a move tells.
func told(x txn.Txn, d move) (txn.Txn, []api.Msg, error) {
	switch d.kind {
	case asks:
		return txn.Ask(x, d.shard, d.at, d.mode)
	case answers:
		one, err := txn.Answered(x, d.m)
		return one, nil, err
	case finishes:
		return txn.Finish(x)
	case votes:
		return txn.Vote(x, d.m)
	case aborts:
		return txn.Abort(x, d.reason)
	}
	one, err := txn.Ack(x, d.m)
	return one, nil, err
}

// tried is what a move tells, of which it checks that it is memory of its own, and leaves what was handed in as it was, with its room.
func tried(t *testing.T, x txn.Txn, d move) (txn.Txn, []api.Msg, error) {
	t.Helper()
	in := roomy(x)
	before := roomy(whole(in))
	one, sent, err := told(in, d)
	if !check.SameTxn(whole(in), before) || !check.SameTxn(in, x) {
		t.Errorf("%+v changes what was handed in, %s", d, check.Txn(x))
	}
	kept := roomy(one)
	check.SpoilTxn(in)
	if !check.SameTxn(one, kept) {
		t.Errorf("%+v of %s tells what was handed in", d, check.Txn(x))
	}
	apart(t, one)
	if !check.IsSpoiled(whole(in)) {
		t.Errorf("what %+v of %s tells is what was handed in", d, check.Txn(x))
	}
	return kept, sent, err
}

// apart checks that no two of a transaction's lists share any, and spoils them.
func apart(t *testing.T, x txn.Txn) {
	t.Helper()
	l := [][]int{x.Touched, x.Votes, x.Acks}
	for i := range l {
		check.Spoil(l[i], -10-i)
	}
	for i := range l {
		if slices.ContainsFunc(l[i][:cap(l[i])], func(n int) bool { return n != -10-i }) {
			t.Errorf("two lists share some: %v", l)
		}
	}
	check.SpoilTxn(x)
}

// does checks what a move sends, and makes of a transaction.
func does(t *testing.T, x txn.Txn, d move, sent, want string) txn.Txn {
	t.Helper()
	one, l, err := tried(t, x, d)
	if got := check.SentTo(l); got != sent || err != nil {
		t.Errorf("%+v of %s sends %s, %v, want %s", d, check.Txn(x), got, err, sent)
	}
	if got := check.Txn(one); got != want {
		t.Errorf("%+v of %s makes\n%s, want\n%s", d, check.Txn(x), got, want)
	}
	return one
}

// mayNot checks that a move has that error, leaves the transaction as it was, and sends nothing.
func mayNot(t *testing.T, x txn.Txn, d move, want api.Errno) {
	t.Helper()
	one, sent, err := tried(t, x, d)
	if !check.SameTxn(one, x) || len(sent) != 0 || !check.Plain(err, want) {
		t.Errorf("%+v of %s = %s, %s, %v, want %v", d, check.Txn(x), check.Txn(one), check.SentTo(sent), err, want)
	}
}

// begun is a new transaction.
func begun(t *testing.T, tx int) txn.Txn {
	t.Helper()
	x, err := txn.New(tx)
	if err != nil {
		t.Fatalf("New(%d) = %v", tx, err)
	}
	return x
}

// more is what moves make of a transaction, one behind the other.
func more(t *testing.T, x txn.Txn, all ...move) txn.Txn {
	t.Helper()
	for _, d := range all {
		one, _, err := told(x, d)
		if err != nil {
			t.Fatalf("%+v of %s = %v", d, check.Txn(x), err)
		}
		x = one
	}
	return x
}

// made is what lists of moves make of the usual transaction.
func made(t *testing.T, lists ...[]move) txn.Txn {
	t.Helper()
	return more(t, begun(t, mine), slices.Concat(lists...)...)
}

// again checks what is sent again, by one whose client is alive, and by one whose client isn't, and that nothing is changed by that.
func again(t *testing.T, x txn.Txn, alive, dead string) {
	t.Helper()
	for i, want := range []string{alive, dead} {
		in := roomy(x)
		before := roomy(whole(in))
		sent := txn.Again(in, i == 0)
		if got := check.SentTo(sent); got != want {
			t.Errorf("Again(%s, %v) = %s, want %s", check.Txn(x), i == 0, got, want)
		}
		if check.Spoil(sent, api.Msg{Kind: -1}); !check.SameTxn(whole(in), before) {
			t.Errorf("Again changes what was handed in, %s", check.Txn(x))
		}
	}
}

// is checks whether one is decided, and over.
func is(t *testing.T, x txn.Txn, decided, over bool) {
	t.Helper()
	if txn.Decided(x) != decided || txn.Over(x) != over {
		t.Errorf("Decided, Over of %s: %v, %v", check.Txn(x), txn.Decided(x), txn.Over(x))
	}
}

// pasts are moves that bring the usual transaction to all states: with a request open and without, that touched none, one and several, with some that voted and some that acknowledged.
func pasts() [][]move {
	one := []move{ask(5, "5", api.S), answer(granted(5, 1, "5", api.S))}
	open, end := []move{ask(2, "3.14", api.X)}, []move{finish()}
	var all [][]move
	for _, lists := range [][][]move{
		{}, {open}, {one}, {one, open}, {three()}, {three(), open},
		{one, end}, {three(), end}, {three(), end, yes(5)}, {three(), end, yes(9, 2)},
		{end}, {one, end, yes(5)}, {three(), end, yes(2, 5, 9)}, {three(), end, yes(2, 5, 9), heard(5)}, {three(), end, yes(9, 5, 2), heard(2, 9, 5)},
		{{abort(txn.ByClient)}}, {open, {abort(txn.ByWound)}}, {one, open, {abort(txn.ByCircle)}, heard(2)},
		{three(), {abort(txn.ByLease)}, heard(9, 2, 5)}, {three(), end, yes(9), {vote(voted(5, 0))}}, {three(), end, yes(9), {abort(txn.ByLease)}, heard(9)},
	} {
		all = append(all, slices.Concat(lists...))
	}
	return all
}

// some are the transactions that came to be by these.
func some(t *testing.T) []txn.Txn {
	t.Helper()
	var all []txn.Txn
	for _, l := range pasts() {
		all = append(all, made(t, l))
	}
	return all
}
