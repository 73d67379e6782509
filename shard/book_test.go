package shard_test

import (
	"errors"
	"maps"
	"slices"
	"strconv"
	"strings"
	"testing"

	"catchbolt/api"
	"catchbolt/check"
	"catchbolt/locks"
	"catchbolt/part"
	"catchbolt/shard"
)

// request is a transaction's last one, with its answer, if that has a kind.
type request struct {
	seq    int
	answer api.Msg
}

// book is a shard as the document tells it, word by word: of the layers below it asks the locks, and the table of states and events.
type book struct {
	c      api.Config
	time   int
	states map[int]int
	leases map[int]int // when each was renewed last
	asked  map[int]request
	locks  *locks.Locks
	log    []api.Grant
	hurt   map[int]bool
}

// opened is a book, and a new shard beside it.
func opened(t *testing.T, c api.Config) (*book, *shard.Shard) {
	t.Helper()
	table, err := locks.New(c.Slots, c.Queue)
	if err != nil {
		t.Fatalf("New(%d, %d) = %v", c.Slots, c.Queue, err)
	}
	b := &book{c: c, states: map[int]int{}, leases: map[int]int{}, asked: map[int]request{}, locks: table, hurt: map[int]bool{}}
	return b, made(t, c)
}

// up is a message to the coordinator, of a transaction.
func up(kind, tx, code int) []api.Msg {
	return []api.Msg{{Kind: kind, From: here, Tx: tx, Code: code}}
}

// close keeps an answer, if its request is the last one, and has none yet.
func (b *book) close(m api.Msg) []api.Msg {
	if r := b.asked[m.Tx]; r.seq == m.Seq && r.answer.Kind == 0 {
		b.asked[m.Tx] = request{seq: m.Seq, answer: m}
	}
	return []api.Msg{m}
}

// granted is that a request is granted.
func (b *book) granted(tx, seq int, at api.Res) []api.Msg {
	m := b.locks.Mode(tx, at)
	b.log = append(b.log, api.Grant{Tx: tx, Seq: seq, At: at, Mode: m})
	return b.close(api.Msg{Kind: api.KGranted, From: here, Tx: tx, Seq: seq, At: at, Mode: m})
}

// letGo is that a transaction is let go.
func (b *book) letGo(tx int) []api.Msg {
	granted := b.locks.Free(tx)
	delete(b.leases, tx)
	delete(b.asked, tx)
	var sent []api.Msg
	for _, g := range granted {
		sent = append(sent, b.granted(g.Tx, g.Seq, g.At)...)
	}
	return sent
}

// wounds are those of all that are hurt, rising.
func (b *book) wounds() []api.Msg {
	if b.c.Probe {
		return nil
	}
	by := map[int]int{}
	for _, e := range b.locks.Edges() {
		if e.From < e.To && (by[e.To] == 0 || e.From < by[e.To]) {
			by[e.To] = e.From
		}
	}
	var all []api.Msg
	for _, tx := range slices.Sorted(maps.Keys(by)) {
		all = append(all, api.Msg{Kind: api.KWound, From: here, Tx: tx, Next: by[tx]})
	}
	return all
}

// behind are the wounds that are told behind each message and each tick.
func (b *book) behind() []api.Msg {
	was := b.hurt
	b.hurt = map[int]bool{}
	var sent []api.Msg
	for _, m := range b.wounds() {
		b.hurt[m.Tx] = true
		if !was[m.Tx] {
			sent = append(sent, m)
		}
	}
	return sent
}

// probes are those by which a request's steps go on along its edges.
func (b *book) probes(steps ...api.Step) []api.Msg {
	last := steps[len(steps)-1]
	var all []api.Msg
	for _, e := range b.locks.Edges() {
		if e.From == last.Tx && e.Seq == last.Seq {
			m := api.Msg{Kind: api.KProbe, From: here, Next: e.To, NextSeq: e.ToSeq, N: len(steps)}
			copy(m.Path[:], steps)
			all = append(all, m)
		}
	}
	return all
}

// comes is a message that may be, and is to this shard: what is sent.
func (b *book) comes(m api.Msg) []api.Msg {
	kinds := map[int]func(m api.Msg) []api.Msg{api.KLock: b.lock, api.KPrepare: b.prepare, api.KDecide: b.decide, api.KRenew: b.renew, api.KProbe: b.probe}
	sent := kinds[m.Kind](m)
	return append(sent, b.behind()...)
}

func (b *book) lock(m api.Msg) []api.Msg {
	state, answer, err := part.Next(b.states[m.Tx], part.Lock)
	if err != nil {
		return nil
	}
	if answer.Kind == api.KExpired {
		return up(api.KExpired, m.Tx, 0)
	}
	b.states[m.Tx] = state
	b.leases[m.Tx] = b.time
	r := b.asked[m.Tx]
	switch {
	case m.Seq < r.seq, m.Seq == r.seq && r.answer.Kind == 0:
		return nil
	case m.Seq == r.seq:
		return []api.Msg{r.answer}
	}
	b.asked[m.Tx] = request{seq: m.Seq}
	granted, err := b.locks.Ask(m.Tx, m.Seq, m.At, m.Mode)
	for code := api.ErrArg; code <= api.ErrDone; code++ {
		if errors.Is(err, code) {
			return b.close(api.Msg{Kind: api.KRefused, From: here, Tx: m.Tx, Seq: m.Seq, Code: int(code)})
		}
	}
	if granted {
		return b.granted(m.Tx, m.Seq, m.At)
	}
	if b.c.Probe {
		return b.probes(api.Step{Tx: m.Tx, Seq: m.Seq})
	}
	return nil
}

func (b *book) prepare(m api.Msg) []api.Msg {
	if _, err := b.locks.Wait(m.Tx); err == nil && b.states[m.Tx] == part.Active {
		return up(api.KVote, m.Tx, 0)
	}
	state, answer, err := part.Next(b.states[m.Tx], part.Prepare)
	if err != nil {
		return nil
	}
	b.states[m.Tx] = state
	if state == part.Prepared {
		delete(b.leases, m.Tx)
	}
	return up(api.KVote, m.Tx, answer.Code)
}

func (b *book) decide(m api.Msg) []api.Msg {
	event := []int{part.Abort, part.Commit}[m.Code]
	was := b.states[m.Tx]
	b.states[m.Tx], _, _ = part.Next(was, event)
	sent := up(api.KAck, m.Tx, 0)
	if !part.Decided(was) {
		sent = append(sent, b.letGo(m.Tx)...)
	}
	return sent
}

func (b *book) renew(m api.Msg) []api.Msg {
	state, answer, err := part.Next(b.states[m.Tx], part.Renew)
	if err != nil {
		return nil
	}
	if state == part.Active {
		b.leases[m.Tx] = b.time
	}
	if answer.Kind == 0 {
		return nil
	}
	return up(answer.Kind, m.Tx, 0)
}

func (b *book) probe(m api.Msg) []api.Msg {
	w, err := b.locks.Wait(m.Next)
	steps := slices.Clone(m.Path[:m.N])
	is := func(s api.Step) bool { return s.Tx == m.Next }
	if err != nil || m.NextSeq != 0 && m.NextSeq != w.Seq || slices.ContainsFunc(steps, is) || len(steps) == 8 {
		return nil
	}
	return b.probes(append(steps, api.Step{Tx: m.Next, Seq: w.Seq})...)
}

// tick is a tick: what is sent.
func (b *book) tick() []api.Msg {
	b.time++
	var sent []api.Msg
	if b.time%b.c.Resend == 0 {
		sent = b.again()
	}
	var due []int
	for tx, last := range b.leases {
		if b.time-last >= b.c.Lease {
			due = append(due, tx)
		}
	}
	slices.Sort(due)
	for _, tx := range due {
		b.states[tx], _, _ = part.Next(b.states[tx], part.Expire)
		sent = slices.Concat(sent, up(api.KExpired, tx, 0), b.letGo(tx))
	}
	return append(sent, b.behind()...)
}

// again is what a multiple of Resend sends.
func (b *book) again() []api.Msg {
	var sent []api.Msg
	for _, tx := range slices.Sorted(maps.Keys(b.states)) {
		if b.states[tx] == part.Expired {
			sent = append(sent, up(api.KExpired, tx, 0)...)
		}
	}
	for _, tx := range slices.Sorted(maps.Keys(b.states)) {
		if w, err := b.locks.Wait(tx); err == nil && b.c.Probe {
			sent = append(sent, b.probes(api.Step{Tx: tx, Seq: w.Seq})...)
		}
	}
	return append(sent, b.wounds()...)
}

// view is all that it has.
func (b *book) view() shard.View {
	v := shard.View{
		Time: b.time, Leases: slices.Sorted(maps.Keys(b.leases)), Book: slices.Sorted(maps.Keys(b.asked)),
		Edges: b.locks.Edges(), Log: b.log,
	}
	for _, tx := range slices.Sorted(maps.Keys(b.states)) {
		if b.states[tx] != part.Fresh {
			v.States = append(v.States, shard.State{Tx: tx, State: b.states[tx]})
		}
	}
	for _, at := range b.locks.All() {
		for _, h := range b.locks.Holders(at) {
			v.Held = append(v.Held, api.Grant{Tx: h.Tx, At: at, Mode: h.Mode})
		}
		for _, w := range b.locks.Waiting(at) {
			v.Waits = append(v.Waits, api.Grant{Tx: w.Tx, Seq: w.Seq, At: at, Mode: w.Mode})
		}
	}
	return v
}

// key is all that may tell in what is yet to come, as a text: books of one key are one from then on, but for the log and the time.
func (b *book) key() string {
	v := b.view()
	v.Time, v.Log = b.time%b.c.Resend, nil
	all := []string{check.Shard(v)}
	for _, tx := range v.Leases {
		all = append(all, strconv.Itoa(b.time-b.leases[tx]))
	}
	for _, tx := range v.Book {
		r := b.asked[tx]
		all = append(all, strconv.Itoa(r.seq)+check.Sent([]api.Msg{r.answer}))
	}
	for _, tx := range slices.Sorted(maps.Keys(b.hurt)) {
		all = append(all, strconv.Itoa(tx))
	}
	return strings.Join(all, "|")
}

// isTick says whether a message stands for a tick: the zero one does.
func isTick(m api.Msg) bool { return m == api.Msg{} }

// does does to a book what a message stands for.
func (b *book) does(m api.Msg) []api.Msg {
	if isTick(m) {
		return b.tick()
	}
	return b.comes(m)
}

// does does it to a shard.
func does(t *testing.T, s *shard.Shard, m api.Msg) []api.Msg {
	t.Helper()
	if isTick(m) {
		return s.Tick()
	}
	sent, err := s.Handle(m)
	if err != nil {
		t.Errorf("Handle(%+v) = %v", m, err)
	}
	return sent
}

// both does it to a book and to a shard, and checks that both send and have the same.
func (b *book) both(t *testing.T, s *shard.Shard, m api.Msg) {
	t.Helper()
	want, sent := b.does(m), does(t, s, m)
	if !slices.Equal(sent, want) {
		t.Errorf("%s sends %+v, want %+v, now %s", check.Sent([]api.Msg{m}), sent, want, of(s))
	}
	has(t, s, b.view())
	for tx, state := range b.states {
		isState(t, s, tx, state)
	}
}

// world is what there may be, for messages of all kinds.
type world struct {
	txs, seqs int
	places    []string
	modes     []api.Mode
	probes    bool
}

// all are a tick, and all messages that there may be.
func (w world) all() []api.Msg {
	all := []api.Msg{{}}
	for tx := 1; tx <= w.txs; tx++ {
		all = append(all, prepare(tx), decide(tx, 0), decide(tx, 1), renew(tx))
		for seq := 1; seq <= w.seqs; seq++ {
			for _, at := range w.places {
				for _, m := range w.modes {
					all = append(all, lock(tx, seq, at, m))
				}
			}
			if w.probes {
				all = append(all, probing(step(9, 1), step(tx, seq)), probing(step(tx, 0), step(tx%w.txs+1, seq)))
			}
		}
	}
	return all
}

// eachState calls f with messages by which each state comes about to which all can bring a shard.
func (w world) eachState(t *testing.T, c api.Config, f func(ahead []api.Msg)) int {
	t.Helper()
	seen := map[string]bool{}
	next := [][]api.Msg{nil}
	for len(next) > 0 {
		ahead := next[0]
		next = next[1:]
		b, _ := opened(t, c)
		for _, m := range ahead {
			b.does(m)
		}
		if seen[b.key()] {
			continue
		}
		seen[b.key()] = true
		f(ahead)
		for _, m := range w.all() {
			next = append(next, append(slices.Clone(ahead), m))
		}
	}
	return len(seen)
}
