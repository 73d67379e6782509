package txn_test

import (
	"fmt"
	"slices"
	"strconv"
	"strings"
	"testing"

	"catchbolt/api"
	"catchbolt/check"
	"catchbolt/msg"
	"catchbolt/txn"
)

// mine is the number of most tests' transaction.
const mine = 7

// The kinds of moves.
const (
	asks = iota
	answers
	finishes
	votes
	aborts
	acks
	kinds
)

// move is a call that makes another transaction of one, with what it is called.
type move struct {
	kind   int
	shard  int
	at     api.Res
	mode   api.Mode
	m      api.Msg
	reason int
}

// The moves.

func ask(shard int, text string, m api.Mode) move {
	return move{kind: asks, shard: shard, at: check.At(text), mode: m}
}

func answer(m api.Msg) move { return move{kind: answers, m: m} }

func finish() move { return move{kind: finishes} }

func vote(m api.Msg) move { return move{kind: votes, m: m} }

func abort(reason int) move { return move{kind: aborts, reason: reason} }

func ack(m api.Msg) move { return move{kind: acks, m: m} }

// The messages of the usual transaction, from a shard.

func granted(shard, seq int, text string, m api.Mode) api.Msg {
	return api.Msg{Kind: api.KGranted, From: shard, Tx: mine, Seq: seq, At: check.At(text), Mode: m}
}

func refused(shard, seq, code int) api.Msg {
	return api.Msg{Kind: api.KRefused, From: shard, Tx: mine, Seq: seq, Code: code}
}

func voted(shard, code int) api.Msg {
	return api.Msg{Kind: api.KVote, From: shard, Tx: mine, Code: code}
}

func acked(shard int) api.Msg { return api.Msg{Kind: api.KAck, From: shard, Tx: mine} }

// of is a message of another transaction.
func of(tx int, m api.Msg) api.Msg {
	m.Tx = tx
	return m
}

// yes, and heard, are the votes for it, and the acknowledgements, of those shards.
func yes(shards ...int) []move {
	var all []move
	for _, shard := range shards {
		all = append(all, vote(voted(shard, 1)))
	}
	return all
}

func heard(shards ...int) []move {
	var all []move
	for _, shard := range shards {
		all = append(all, ack(acked(shard)))
	}
	return all
}

// three are requests of three shards, answered, not in the shards' order; one is refused.
func three() []move {
	return []move{
		ask(5, "5", api.S), answer(granted(5, 1, "5", api.S)),
		ask(2, "2.1", api.X), answer(refused(2, 2, 9)),
		ask(9, "9", api.IX), answer(granted(9, 3, "9", api.IX)),
	}
}

// names are the states' names, by their numbers.
var names = []string{"?", "Active", "Preparing", "Committed", "Aborted"}

// text is all that a transaction has, as a text, without what it has nothing of: "7 Active; request 2 of 5: 3.14X, open; touched 2 5; got 3:7.1IS".
func text(x txn.Txn) string {
	state := "?" + strconv.Itoa(x.State)
	if x.State >= 0 && x.State < len(names) {
		state = names[x.State]
	}
	all := []string{strconv.Itoa(x.Tx) + " " + state}
	if x.Reason != 0 {
		all[0] += " " + strconv.Itoa(x.Reason)
	}
	if x.Seq != 0 || x.Open || x.Shard != 0 || x.At != (api.Res{}) || x.Mode != 0 {
		open := ""
		if x.Open {
			open = ", open"
		}
		all = append(all, fmt.Sprintf("request %d of %d: %s%s%s", x.Seq, x.Shard, check.Res(x.At), check.Mode(x.Mode), open))
	}
	for i, l := range [][]int{x.Touched, x.Votes, x.Acks} {
		if len(l) > 0 {
			all = append(all, []string{"touched ", "votes ", "acks "}[i]+strings.Trim(fmt.Sprint(l), "[]"))
		}
	}
	if len(x.Got) > 0 {
		all = append(all, "got "+check.Granted(x.Got))
	}
	return strings.Join(all, "; ")
}

// sentText is the text of what is sent: "2: lock 3.14:7.1X, 5: prepare 7". That a message may be is what says that all else in it is 0.
func sentText(l []api.Msg) string {
	var all []string
	for _, m := range l {
		text := strconv.Itoa(m.To) + ": " + check.Sent([]api.Msg{m})
		if m.From != 0 || msg.Ok(m) != nil {
			text = fmt.Sprintf("%+v, which may not be", m)
		}
		all = append(all, text)
	}
	return strings.Join(all, ", ")
}

// same says whether two transactions are the same. Lists that are nil and that are empty are one.
func same(a, b txn.Txn) bool {
	plain := func(x txn.Txn) [9]int {
		open := 0
		if x.Open {
			open = 1
		}
		return [...]int{x.Tx, x.State, x.Reason, x.Seq, open, x.Shard, x.At.Table, x.At.Row, int(x.Mode)}
	}
	return plain(a) == plain(b) && slices.Equal(a.Touched, b.Touched) && slices.Equal(a.Votes, b.Votes) && slices.Equal(a.Acks, b.Acks) && slices.Equal(a.Got, b.Got)
}

// wrongGrant is a lock that nobody has.
var wrongGrant = api.Grant{Tx: -1, Seq: -1, At: api.Res{Table: -1, Row: -1}, Mode: -1}

// spoil changes all of a transaction's lists, and what is behind them in their room.
func spoil(x txn.Txn) {
	for _, l := range [][]int{x.Touched, x.Votes, x.Acks} {
		check.Spoil(l, -1)
	}
	check.Spoil(x.Got, wrongGrant)
}

// isSpoiled says whether all that is in a transaction's lists is what spoil puts there.
func isSpoiled(x txn.Txn) bool {
	numbers := slices.Concat(x.Touched, x.Votes, x.Acks)
	return !slices.ContainsFunc(numbers, func(n int) bool { return n != -1 }) && !slices.ContainsFunc(x.Got, func(g api.Grant) bool { return g != wrongGrant })
}

// copied is a list as new memory, with some room behind it.
func copied[E any](l []E) []E {
	return append(make([]E, 0, len(l)+3), l...)
}

// roomy is a transaction whose lists are new memory, with some room behind each.
func roomy(x txn.Txn) txn.Txn {
	x.Touched, x.Votes, x.Acks, x.Got = copied(x.Touched), copied(x.Votes), copied(x.Acks), copied(x.Got)
	return x
}

// whole is a transaction with its lists' rooms.
func whole(x txn.Txn) txn.Txn {
	x.Touched, x.Votes, x.Acks = x.Touched[:cap(x.Touched)], x.Votes[:cap(x.Votes)], x.Acks[:cap(x.Acks)]
	x.Got = x.Got[:cap(x.Got)]
	return x
}

// told is what a move tells.
func told(x txn.Txn, d move) (txn.Txn, []api.Msg, error) {
	switch d.kind {
	case asks:
		return txn.Ask(x, d.shard, d.at, d.mode)
	case answers:
		one, err := txn.Answered(x, d.m)
		return one, nil, err
	case finishes:
		return txn.Finish(x)
	case votes:
		return txn.Vote(x, d.m)
	case aborts:
		return txn.Abort(x, d.reason)
	}
	one, err := txn.Ack(x, d.m)
	return one, nil, err
}

// tried is what a move tells, of which it checks that it is memory of its own, and leaves what was handed in as it was, with its room.
func tried(t *testing.T, x txn.Txn, d move) (txn.Txn, []api.Msg, error) {
	t.Helper()
	in := roomy(x)
	before := roomy(whole(in))
	one, sent, err := told(in, d)
	if !same(whole(in), before) || !same(in, x) {
		t.Errorf("%+v changes what was handed in, %s", d, text(x))
	}
	kept := roomy(one)
	spoil(in)
	if !same(one, kept) {
		t.Errorf("%+v of %s tells what was handed in", d, text(x))
	}
	apart(t, one)
	if !isSpoiled(whole(in)) {
		t.Errorf("what %+v of %s tells is what was handed in", d, text(x))
	}
	return kept, sent, err
}

// apart checks that no two of a transaction's lists share any, and spoils them.
func apart(t *testing.T, x txn.Txn) {
	t.Helper()
	l := [][]int{x.Touched, x.Votes, x.Acks}
	for i := range l {
		check.Spoil(l[i], -10-i)
	}
	for i := range l {
		if slices.ContainsFunc(l[i][:cap(l[i])], func(n int) bool { return n != -10-i }) {
			t.Errorf("two lists share some: %v", l)
		}
	}
	spoil(x)
}

// does checks what a move sends, and makes of a transaction.
func does(t *testing.T, x txn.Txn, d move, sent, want string) txn.Txn {
	t.Helper()
	one, l, err := tried(t, x, d)
	if got := sentText(l); got != sent || err != nil {
		t.Errorf("%+v of %s sends %s, %v, want %s", d, text(x), got, err, sent)
	}
	if got := text(one); got != want {
		t.Errorf("%+v of %s makes\n%s, want\n%s", d, text(x), got, want)
	}
	return one
}

// mayNot checks that a move has that error, leaves the transaction as it was, and sends nothing.
func mayNot(t *testing.T, x txn.Txn, d move, want api.Errno) {
	t.Helper()
	one, sent, err := tried(t, x, d)
	if !same(one, x) || len(sent) != 0 || !check.Plain(err, want) {
		t.Errorf("%+v of %s = %s, %s, %v, want %v", d, text(x), text(one), sentText(sent), err, want)
	}
}

// begun is a new transaction.
func begun(t *testing.T, tx int) txn.Txn {
	t.Helper()
	x, err := txn.New(tx)
	if err != nil {
		t.Fatalf("New(%d) = %v", tx, err)
	}
	return x
}

// more is what moves make of a transaction, one behind the other.
func more(t *testing.T, x txn.Txn, all ...move) txn.Txn {
	t.Helper()
	for _, d := range all {
		one, _, err := told(x, d)
		if err != nil {
			t.Fatalf("%+v of %s = %v", d, text(x), err)
		}
		x = one
	}
	return x
}

// made is what lists of moves make of the usual transaction.
func made(t *testing.T, lists ...[]move) txn.Txn {
	t.Helper()
	return more(t, begun(t, mine), slices.Concat(lists...)...)
}

// again checks what is sent again, by one whose client is alive, and by one whose client isn't, and that nothing is changed by that.
func again(t *testing.T, x txn.Txn, alive, dead string) {
	t.Helper()
	for i, want := range []string{alive, dead} {
		in := roomy(x)
		before := roomy(whole(in))
		sent := txn.Again(in, i == 0)
		if got := sentText(sent); got != want {
			t.Errorf("Again(%s, %v) = %s, want %s", text(x), i == 0, got, want)
		}
		if check.Spoil(sent, api.Msg{Kind: -1}); !same(whole(in), before) {
			t.Errorf("Again changes what was handed in, %s", text(x))
		}
	}
}

// is checks whether one is decided, and over.
func is(t *testing.T, x txn.Txn, decided, over bool) {
	t.Helper()
	if txn.Decided(x) != decided || txn.Over(x) != over {
		t.Errorf("Decided, Over of %s: %v, %v", text(x), txn.Decided(x), txn.Over(x))
	}
}

// pasts are moves that bring the usual transaction to all states: with a request open and without, that touched none, one and several, with some that voted and some that acknowledged.
func pasts() [][]move {
	one := []move{ask(5, "5", api.S), answer(granted(5, 1, "5", api.S))}
	open, end := []move{ask(2, "3.14", api.X)}, []move{finish()}
	var all [][]move
	for _, lists := range [][][]move{
		{}, {open}, {one}, {one, open}, {three()}, {three(), open},
		{one, end}, {three(), end}, {three(), end, yes(5)}, {three(), end, yes(9, 2)},
		{end}, {one, end, yes(5)}, {three(), end, yes(2, 5, 9)}, {three(), end, yes(2, 5, 9), heard(5)}, {three(), end, yes(9, 5, 2), heard(2, 9, 5)},
		{{abort(txn.ByClient)}}, {open, {abort(txn.ByWound)}}, {one, open, {abort(txn.ByCircle)}, heard(2)},
		{three(), {abort(txn.ByLease)}, heard(9, 2, 5)}, {three(), end, yes(9), {vote(voted(5, 0))}}, {three(), end, yes(9), {abort(txn.ByLease)}, heard(9)},
	} {
		all = append(all, slices.Concat(lists...))
	}
	return all
}

// some are the transactions that came to be by these.
func some(t *testing.T) []txn.Txn {
	t.Helper()
	var all []txn.Txn
	for _, l := range pasts() {
		all = append(all, made(t, l))
	}
	return all
}
