package probe_test

import (
	"slices"

	"catchbolt/api"
	"catchbolt/check"
	"catchbolt/msg"
	"catchbolt/probe"
)

// isProbe says by the document's words whether a message is a probe.
func isProbe(m api.Msg) bool { return m.Kind == api.KProbe && msg.Ok(m) == nil }

// isNumber says whether a transaction, or a request, may have a number.
func isNumber(n int) bool { return n >= 1 && n <= 1048576 }

// of is the message that is the probe from a shard to the coordinator, with steps, which waits for another one, if it may be.
func of(shard int, next api.Step, steps ...api.Step) api.Msg {
	m := api.Msg{Kind: api.KProbe, From: shard, Next: next.Tx, NextSeq: next.Seq, N: len(steps)}
	copy(m.Path[:], steps)
	return m
}

// bookOfEdges are such messages with those steps, of each edge from the last one; none and ErrArg, if one may not be.
func bookOfEdges(shard int, l []api.Edge, steps ...api.Step) ([]api.Msg, api.Errno) {
	last := steps[len(steps)-1]
	var all []api.Msg
	for _, e := range l {
		if e.From == last.Tx && e.Seq == last.Seq {
			all = append(all, of(shard, api.Step{Tx: e.To, Seq: e.ToSeq}, steps...))
		}
	}
	for _, m := range all {
		if !isProbe(m) {
			return nil, api.ErrArg
		}
	}
	return all, api.OK
}

// bookOfStart is what Start answers, as the document says it word by word.
func bookOfStart(shard int, w api.Step, l []api.Edge) ([]api.Msg, api.Errno) {
	if shard < 1 || shard > 64 || !isNumber(w.Tx) || !isNumber(w.Seq) {
		return nil, api.ErrArg
	}
	return bookOfEdges(shard, l, w)
}

// bookOfGo is what Go answers, likewise.
func bookOfGo(shard int, m api.Msg, seq int, l []api.Edge) ([]api.Msg, api.Errno) {
	if !isProbe(m) {
		return nil, api.ErrForm
	}
	steps := m.Path[:m.N:m.N]
	is := func(s api.Step) bool { return s.Tx == m.Next }
	switch {
	case m.NextSeq != 0 && m.NextSeq != seq:
		return nil, api.ErrStale
	case slices.ContainsFunc(steps, is):
		return nil, api.ErrState
	case m.N == 8:
		return nil, api.ErrLong
	}
	return bookOfEdges(shard, l, append(steps, api.Step{Tx: m.Next, Seq: seq})...)
}

// service is some that wait: who waits for whom, and by which request whoever waits does. Some edges may be those of other requests, elder ones.
type service struct {
	edges []api.Edge
	waits map[int]int
}

// home is the shard at which a transaction waits, if it does.
func home(tx int) int { return 1 + tx%5 }

// at are the edges that a shard sees: those of the ones that wait there.
func (s *service) at(shard int) []api.Edge {
	return slices.DeleteFunc(slices.Clone(s.edges), func(e api.Edge) bool { return home(e.From) != shard })
}

// open are the requests of all that wait.
func (s *service) open() []api.Step {
	var all []api.Step
	for tx, seq := range s.waits {
		all = append(all, api.Step{Tx: tx, Seq: seq})
	}
	return all
}

// circles are those of at most eight on which one is, each from it on. An edge of another request, or for one, is on none.
func (s *service) circles(tx int) [][]api.Step {
	now := slices.DeleteFunc(slices.Clone(s.edges), func(e api.Edge) bool {
		return e.Seq != s.waits[e.From] || e.ToSeq != 0 && e.ToSeq != s.waits[e.To]
	})
	var all [][]api.Step
	for _, c := range check.Circles(now) {
		place := slices.Index(c, tx)
		if place < 0 || len(c) > 8 {
			continue
		}
		var steps []api.Step
		for _, n := range slices.Concat(c[place:], c[:place]) {
			steps = append(steps, api.Step{Tx: n, Seq: s.waits[n]})
		}
		all = append(all, steps)
	}
	return all
}

// sentOn are the probes by which one goes on, from shard to coordinator to shard: none, if nobody waits there. By errors of the document it ends, by no other one.
func (s *service) sentOn(m api.Msg) []api.Msg {
	seq, ok := s.waits[m.Next]
	if !ok {
		return nil
	}
	shard := home(m.Next)
	down, err := probe.Onward(shard, m)
	if err != nil {
		panic(err)
	}
	l, err := probe.Go(shard, down, seq, s.at(shard))
	if err != nil && !check.Plain(err, api.ErrStale) && !check.Plain(err, api.ErrState) && !check.Plain(err, api.ErrLong) {
		panic(err)
	}
	return l
}

// returned are the probes that come back to one that waits, of all of it that are sent on as long as there are edges.
func (s *service) returned(tx int) []api.Msg {
	onWay, err := probe.Start(home(tx), api.Step{Tx: tx, Seq: s.waits[tx]}, s.at(home(tx)))
	if err != nil {
		panic(err)
	}
	var back []api.Msg
	for len(onWay) > 0 {
		m := onWay[0]
		onWay = append(onWay[1:], s.sentOn(m)...)
		if probe.Back(m) {
			back = append(back, m)
		}
	}
	return back
}
