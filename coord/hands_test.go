package coord_test

import (
	"slices"
	"strconv"
	"strings"
	"testing"

	"catchbolt/api"
	"catchbolt/check"
	"catchbolt/coord"
	"catchbolt/txn"
)

// The kinds of moves.
const (
	begins = iota
	locks
	commits
	aborts
	crashes
	comes
	ticks
	kinds
)

// move is what is done to a coordinator: what a client does, a message that comes, or a tick.
type move struct {
	kind, client int
	at           api.Res
	mode         api.Mode
	m            api.Msg
}

// The moves.

func begin(client int) move { return move{kind: begins, client: client} }

func lock(client int, text string, m api.Mode) move {
	return move{kind: locks, client: client, at: check.At(text), mode: m}
}

func commit(client int) move { return move{kind: commits, client: client} }

func abort(client int) move { return move{kind: aborts, client: client} }

func crash(client int) move { return move{kind: crashes, client: client} }

func come(m api.Msg) move { return move{kind: comes, m: m} }

func tick() move { return move{kind: ticks} }

// The messages that come from a shard.

func granted(shard, tx, seq int, text string, m api.Mode) move {
	return come(api.Msg{Kind: api.KGranted, From: shard, Tx: tx, Seq: seq, At: check.At(text), Mode: m})
}

func refused(shard, tx, seq, code int) move {
	return come(api.Msg{Kind: api.KRefused, From: shard, Tx: tx, Seq: seq, Code: code})
}

func voted(shard, tx, code int) move {
	return come(api.Msg{Kind: api.KVote, From: shard, Tx: tx, Code: code})
}

func acked(shard, tx int) move { return come(api.Msg{Kind: api.KAck, From: shard, Tx: tx}) }

func expired(shard, tx int) move { return come(api.Msg{Kind: api.KExpired, From: shard, Tx: tx}) }

func wounded(shard, tx, by int) move {
	return come(api.Msg{Kind: api.KWound, From: shard, Tx: tx, Next: by})
}

// probing is a probe with those steps, for the first one.
func probing(shard int, next api.Step, steps ...api.Step) move {
	m := api.Msg{Kind: api.KProbe, From: shard, Next: next.Tx, NextSeq: next.Seq, N: len(steps)}
	copy(m.Path[:], steps)
	return come(m)
}

// step is a transaction's request.
func step(tx, seq int) api.Step { return api.Step{Tx: tx, Seq: seq} }

// steps are requests of those transactions, of each its first one.
func steps(txs ...int) []api.Step {
	var l []api.Step
	for _, tx := range txs {
		l = append(l, step(tx, 1))
	}
	return l
}

// text is a move as a text.
func (d move) text() string {
	switch d.kind {
	case comes:
		return check.Sent([]api.Msg{d.m}) + " from " + strconv.Itoa(d.m.From)
	case locks:
		return strconv.Itoa(d.client) + " locks " + check.Res(d.at) + check.Mode(d.mode)
	}
	return strconv.Itoa(d.client) + " " + []string{"begins", "", "commits", "aborts", "crashes", "", "ticks"}[d.kind]
}

// told is what a move tells.
func told(o *coord.Coord, d move) (int, []api.Msg, error) {
	var sent []api.Msg
	var err error
	switch d.kind {
	case begins:
		tx, err := o.Begin(d.client)
		return tx, nil, err
	case locks:
		sent, err = o.Lock(d.client, d.at, d.mode)
	case commits:
		sent, err = o.Commit(d.client)
	case aborts:
		sent, err = o.Abort(d.client)
	case crashes:
		err = o.Crash(d.client)
	case comes:
		sent, err = o.Handle(d.m)
	case ticks:
		sent = o.Tick()
	}
	return 0, sent, err
}

// made is a new coordinator, to which moves were done, that each may be done.
func made(t *testing.T, c api.Config, clients int, lists ...[]move) *coord.Coord {
	t.Helper()
	o, err := coord.New(c, clients)
	if o == nil || err != nil {
		t.Fatalf("New(%+v, %d) = %v, %v", c, clients, o, err)
	}
	more(t, o, slices.Concat(lists...)...)
	return o
}

// more does moves, that each may be done, whatever they send.
func more(t *testing.T, o *coord.Coord, all ...move) {
	t.Helper()
	for _, d := range all {
		if _, _, err := told(o, d); err != nil {
			t.Fatalf("%s: %v, of %s", d.text(), err, of(o))
		}
	}
}

// of is all that a coordinator has, as a text.
func of(o *coord.Coord) string { return check.Coord(o.View()) }

// has checks that a coordinator has what a view has.
func has(t *testing.T, o *coord.Coord, want coord.View) {
	t.Helper()
	if got := o.View(); !check.SameCoord(got, want) {
		t.Errorf("it has\n%s, want\n%s", check.Coord(got), check.Coord(want))
	}
}

// behind are the events of a trace that stand behind another one, which it begins with.
func behind(t *testing.T, before, after coord.View) []api.Event {
	t.Helper()
	if n := len(before.Trace); len(after.Trace) < n || !slices.Equal(after.Trace[:n], before.Trace) {
		t.Fatalf("the trace was\n%s, and is\n%s", check.Traced(before.Trace), check.Traced(after.Trace))
	}
	return after.Trace[len(before.Trace):]
}

// does checks what a move sends, and which events it is behind it.
func does(t *testing.T, o *coord.Coord, d move, sent, events string) {
	t.Helper()
	before := o.View()
	_, l, err := told(o, d)
	after := o.View()
	if got := check.SentTo(l); got != sent || err != nil {
		t.Errorf("%s: it sends %s, %v, want %s, of %s", d.text(), got, err, sent, check.Coord(before))
	}
	if got := check.Traced(behind(t, before, after)); got != events {
		t.Errorf("%s: it is traced as %s, want %s, of %s", d.text(), got, events, check.Coord(before))
	}
	if passed := after.Time - before.Time; passed != 0 && d.kind != ticks || passed != 1 && d.kind == ticks {
		t.Errorf("%s: the time is %d behind %d", d.text(), after.Time, before.Time)
	}
}

// nothing checks that a move sends nothing, and leaves all as it was.
func nothing(t *testing.T, o *coord.Coord, d move) {
	t.Helper()
	before := o.View()
	if tx, sent, err := told(o, d); tx != 0 || len(sent) != 0 || err != nil {
		t.Errorf("%s = %d, %s, %v, of %s", d.text(), tx, check.SentTo(sent), err, check.Coord(before))
	}
	has(t, o, before)
}

// mayNot checks that a move has that error, tells nothing else, and leaves all as it was.
func mayNot(t *testing.T, o *coord.Coord, d move, want api.Errno) {
	t.Helper()
	before := o.View()
	if tx, sent, err := told(o, d); tx != 0 || len(sent) != 0 || !check.Plain(err, want) {
		t.Errorf("%s = %d, %s, %v, want %v, of %s", d.text(), tx, check.SentTo(sent), err, want, check.Coord(before))
	}
	has(t, o, before)
}

// is checks a transaction.
func is(t *testing.T, o *coord.Coord, tx int, want string) {
	t.Helper()
	v := o.View()
	if tx > len(v.Txns) || check.Txn(v.Txns[tx-1]) != want {
		t.Errorf("want %s, of %s", want, check.Coord(v))
	}
}

// quiet checks that so many ticks send nothing, and that nothing happens by them.
func quiet(t *testing.T, o *coord.Coord, many int) {
	t.Helper()
	for range many {
		does(t, o, tick(), "", "")
	}
}

// config is one whose leases end, and whose messages are sent again, behind so many ticks.
func config(probe bool, lease, resend int) api.Config {
	c := check.Roomy(probe)
	c.Lease, c.Resend = lease, resend
	return c
}

// locked are a client's moves by which it has X of those tables, of which each is of the shard of its number; its transaction has that number.
func locked(client, tx int, tables ...int) []move {
	var all []move
	for i, table := range tables {
		text := strconv.Itoa(table)
		all = append(all, lock(client, text, api.X), granted(table, tx, i+1, text, api.X))
	}
	return all
}

// yes, and heard, are the votes for a transaction, and the acknowledgements, of those shards.
func yes(tx int, shards ...int) []move {
	var all []move
	for _, shard := range shards {
		all = append(all, voted(shard, tx, 1))
	}
	return all
}

func heard(tx int, shards ...int) []move {
	var all []move
	for _, shard := range shards {
		all = append(all, acked(shard, tx))
	}
	return all
}

// to is the text of that message to each of those shards.
func to(text string, shards ...int) string {
	var all []string
	for _, shard := range shards {
		all = append(all, strconv.Itoa(shard)+": "+text)
	}
	return strings.Join(all, ", ")
}

// decided says whether a transaction is.
func decided(x txn.Txn) bool { return x.State == txn.Committed || x.State == txn.Aborted }
