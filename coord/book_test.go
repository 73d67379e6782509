package coord_test

import (
	"maps"
	"slices"
	"strconv"
	"testing"

	"catchbolt/api"
	"catchbolt/check"
	"catchbolt/coord"
	"catchbolt/msg"
	"catchbolt/txn"
)

// book is a coordinator as the document tells it, word by word: of the layers below it asks transactions alone, and which messages may be.
type book struct {
	c     api.Config
	many  int
	time  int
	dead  map[int]int // since when each dead client is
	whose []int       // the client by which each transaction began
	txns  []txn.Txn
	trace []api.Event
}

// opened is a book, and a new coordinator beside it.
func opened(t *testing.T, c api.Config, clients int) (*book, *coord.Coord) {
	t.Helper()
	return &book{c: c, many: clients, dead: map[int]int{}}, made(t, c, clients)
}

// copy is a book that is the same. What a transaction's lists have isn't changed by any call.
func (b *book) copy() *book {
	one := *b
	one.dead, one.whose, one.txns, one.trace = maps.Clone(b.dead), slices.Clone(b.whose), slices.Clone(b.txns), slices.Clone(b.trace)
	return &one
}

// now is a client's transaction that isn't decided, or a zero one.
func (b *book) now(client int) txn.Txn {
	for i, x := range b.txns {
		if b.whose[i] == client && !decided(x) {
			return x
		}
	}
	return txn.Txn{}
}

// of is a transaction that ever began, or a zero one.
func (b *book) of(tx int) txn.Txn {
	if tx < 1 || tx > len(b.txns) {
		return txn.Txn{}
	}
	return b.txns[tx-1]
}

// isOpen says whether a request of a transaction is open: by its number, or, if that is 0, any.
func (b *book) isOpen(s api.Step) bool {
	x := b.of(s.Tx)
	return x.State == 1 && x.Open && (s.Seq == 0 || s.Seq == x.Seq)
}

// reason is whether an error applies, and which.
type reason struct {
	applies bool
	how     api.Errno
}

// against are the errors of a move, in the document's order.
func (b *book) against(d move) []reason {
	_, dead := b.dead[d.client]
	x := b.now(d.client)
	missing, active := reason{d.client < 1 || d.client > b.many, api.ErrNone}, reason{x.State != 1, api.ErrState}
	all := []reason{missing, {dead, api.ErrState}}
	switch d.kind {
	case begins:
		return append(all, reason{x.Tx != 0, api.ErrBusy}, reason{len(b.txns) == 1048576, api.ErrFull})
	case locks:
		may := api.Msg{Kind: api.KLock, To: 1, Tx: 1, Seq: 1, At: d.at, Mode: d.mode}
		return append(all, reason{x.Tx == 0, api.ErrNone}, reason{msg.Ok(may) != nil, api.ErrArg}, active, reason{x.Open, api.ErrBusy}, reason{x.Seq == 1048576, api.ErrFull})
	case commits:
		return append(all, reason{x.Tx == 0, api.ErrNone}, active, reason{x.Open, api.ErrBusy})
	case aborts:
		return append(all, reason{x.Tx == 0, api.ErrNone}, active)
	case comes:
		return []reason{{msg.Ok(d.m) != nil, api.ErrForm}, {d.m.To != 0 || d.m.From > b.c.Shards, api.ErrArg}}
	case ticks:
		return nil
	}
	return all
}

// refusal is the error of a move: the first one that applies; OK is none.
func (b *book) refusal(d move) api.Errno {
	for _, r := range b.against(d) {
		if r.applies {
			return r.how
		}
	}
	return api.OK
}

// traced puts an event into the trace.
func (b *book) traced(e api.Event) { b.trace = append(b.trace, e) }

// is lets a transaction be what it is from now on: an event tells as what it is decided, or that it is Preparing.
func (b *book) is(x txn.Txn, sent []api.Msg, err error) []api.Msg {
	if err != nil {
		return nil
	}
	was := b.txns[x.Tx-1]
	b.txns[x.Tx-1] = x
	switch {
	case was.State == x.State:
	case x.State == 2:
		b.traced(api.Event{Kind: 5, Tx: x.Tx})
	case x.State == 3:
		b.traced(api.Event{Kind: 6, Tx: x.Tx})
	case x.State == 4:
		b.traced(api.Event{Kind: 7, Tx: x.Tx, Code: x.Reason})
	}
	return sent
}

// aborted is that a transaction is, for that reason: what is sent.
func (b *book) aborted(x txn.Txn, why int) []api.Msg { return b.is(txn.Abort(x, why)) }

// does does a move that has no error: what it answers, and sends.
func (b *book) does(d move) (int, []api.Msg) {
	x := b.now(d.client)
	switch d.kind {
	case begins:
		x, _ = txn.New(len(b.txns) + 1)
		b.txns, b.whose = append(b.txns, x), append(b.whose, d.client)
		b.traced(api.Event{Kind: 1, Client: d.client, Tx: x.Tx})
		return x.Tx, nil
	case locks:
		b.traced(api.Event{Kind: 2, Tx: x.Tx, At: d.at, Mode: d.mode})
		return 0, b.is(txn.Ask(x, 1+(d.at.Table-1)%b.c.Shards, d.at, d.mode))
	case commits:
		return 0, b.is(txn.Finish(x))
	case aborts:
		return 0, b.aborted(x, 1)
	case crashes:
		b.dead[d.client] = b.time
		b.traced(api.Event{Kind: 8, Client: d.client})
		return 0, nil
	case comes:
		return 0, b.comes(d.m)
	}
	return 0, b.tick()
}

// comes is a message: what is sent.
func (b *book) comes(m api.Msg) []api.Msg {
	if m.Kind == api.KProbe {
		return b.probe(m)
	}
	x := b.of(m.Tx)
	if x.Tx == 0 {
		return nil
	}
	kinds := map[int]func(x txn.Txn, m api.Msg) []api.Msg{api.KGranted: b.answer, api.KRefused: b.answer, api.KVote: b.vote, api.KAck: b.ack, api.KExpired: b.expire, api.KWound: b.wound}
	return kinds[m.Kind](x, m)
}

func (b *book) answer(x txn.Txn, m api.Msg) []api.Msg {
	x, err := txn.Answered(x, m)
	switch {
	case err != nil:
		return nil
	case m.Kind == api.KGranted:
		b.traced(api.Event{Kind: 3, Tx: m.Tx, At: m.At, Mode: m.Mode})
	default:
		b.traced(api.Event{Kind: 4, Tx: m.Tx, At: x.At, Code: m.Code})
	}
	return b.is(x, nil, nil)
}

func (b *book) vote(x txn.Txn, m api.Msg) []api.Msg { return b.is(txn.Vote(x, m)) }

func (b *book) ack(x txn.Txn, m api.Msg) []api.Msg {
	x, err := txn.Ack(x, m)
	return b.is(x, nil, err)
}

func (b *book) expire(x txn.Txn, _ api.Msg) []api.Msg {
	if x.State == 1 || x.State == 2 {
		return b.aborted(x, 5)
	}
	return nil
}

func (b *book) wound(x txn.Txn, m api.Msg) []api.Msg {
	by := b.of(m.Next).State
	if !b.c.Probe && x.State == 1 && (by == 1 || by == 2) {
		return b.aborted(x, 3)
	}
	return nil
}

func (b *book) probe(m api.Msg) []api.Msg {
	if !b.c.Probe {
		return nil
	}
	victim := 0
	for _, s := range m.Path[:m.N] {
		if !b.isOpen(s) {
			return nil
		}
		victim = max(victim, s.Tx)
	}
	next := api.Step{Tx: m.Next, Seq: m.NextSeq}
	switch {
	case next == m.Path[0], next == api.Step{Tx: m.Path[0].Tx}:
		return b.aborted(b.of(victim), 4)
	case b.isOpen(next):
		m.From, m.To = 0, b.of(m.Next).Shard
		return []api.Msg{m}
	}
	return nil
}

// tick is a tick: what is sent.
func (b *book) tick() []api.Msg {
	b.time++
	var sent []api.Msg
	for i, x := range b.txns {
		since, dead := b.dead[b.whose[i]]
		if dead && x.State == 1 && b.time >= since+b.c.Lease {
			sent = append(sent, b.aborted(x, 5)...)
		}
	}
	if b.time%b.c.Resend != 0 {
		return sent
	}
	for i, x := range b.txns {
		if _, dead := b.dead[b.whose[i]]; !txn.Over(x) {
			sent = append(sent, txn.Again(x, !dead)...)
		}
	}
	return sent
}

// view is all that it has.
func (b *book) view() coord.View {
	return coord.View{Time: b.time, Last: len(b.txns), Txns: b.txns, Trace: b.trace}
}

// key is all that may tell in what is yet to come, as a text: books of one key are one from then on, but for the trace and the time.
func (b *book) key() string {
	var all []byte
	add := func(l ...int) {
		for _, n := range l {
			all = append(strconv.AppendInt(all, int64(n), 10), ' ')
		}
		all = append(all, ';')
	}
	add(b.time % b.c.Resend)
	add(b.whose...)
	for _, x := range b.txns {
		open := 0
		if x.Open {
			open = 1
		}
		add(x.State, x.Reason, x.Seq, open, x.Shard, x.At.Table, x.At.Row, int(x.Mode))
		add(x.Touched...)
		add(x.Votes...)
		add(x.Acks...)
		for _, g := range x.Got {
			add(g.Seq, g.At.Table, g.At.Row, int(g.Mode))
		}
		add()
	}
	for client := 1; client <= b.many; client++ {
		if since, dead := b.dead[client]; dead {
			add(client, min(b.time-since, b.c.Lease))
		}
	}
	return string(all)
}

// both does a move to a book and to a coordinator, and checks that both tell, send and have the same.
func (b *book) both(t *testing.T, o *coord.Coord, d move) {
	t.Helper()
	how, n, want := b.refusal(d), 0, []api.Msg(nil)
	if how == api.OK {
		n, want = b.does(d)
	}
	tx, sent, err := told(o, d)
	if tx != n || !slices.Equal(sent, want) || how == api.OK && err != nil || how != api.OK && !check.Plain(err, how) {
		t.Errorf("%s = %d, %s, %v, want %d, %s, %v, now %s", d.text(), tx, check.SentTo(sent), err, n, check.SentTo(want), how, of(o))
	}
	has(t, o, b.view())
}
