package probe_test

import (
	"fmt"
	"slices"
	"testing"

	"catchbolt/api"
	"catchbolt/check"
	"catchbolt/probe"
)

// step is one of a transaction, by its request.
func step(tx, seq int) api.Step { return api.Step{Tx: tx, Seq: seq} }

// from are the edges from one to others, in order.
func from(w api.Step, to ...api.Step) []api.Edge {
	var l []api.Edge
	for _, s := range to {
		l = append(l, api.Edge{From: w.Tx, Seq: w.Seq, To: s.Tx, ToSeq: s.Seq})
	}
	return l
}

// beside are edges that are near those from one, but none of it.
func beside(w api.Step) []api.Edge {
	l := []api.Edge{
		{From: w.Tx, Seq: w.Seq + 1, To: 5}, {From: w.Tx, Seq: w.Seq - 1, To: 5}, {From: w.Tx, To: 5},
		{From: w.Tx + 1, Seq: w.Seq, To: 5}, {From: w.Tx - 1, Seq: w.Seq, To: 5}, {Seq: w.Seq, To: 5},
		{From: w.Seq + 7, Seq: w.Tx + 7, To: 5}, {From: 5, Seq: 6, To: w.Tx, ToSeq: w.Seq},
		{From: w.Tx + 1<<32, Seq: w.Seq, To: 5}, {From: w.Tx, Seq: w.Seq - 1<<32, To: 5}, {From: -w.Tx, Seq: w.Seq, To: 5},
	}
	return slices.DeleteFunc(l, func(e api.Edge) bool { return e.From == w.Tx && e.Seq == w.Seq })
}

// shards are all that there are.
func shards() []int { return check.UpTo(1, 64) }

// wrongShards are numbers of none.
func wrongShards() []int { return check.WrongLimits() }

// answered checks probes, or none and an error.
func answered(t *testing.T, call string, got []api.Msg, err error, want []api.Msg, fails api.Errno) {
	t.Helper()
	if !slices.Equal(got, want) || !(fails == api.OK && err == nil || fails != api.OK && check.Plain(err, fails)) {
		t.Errorf("%s = %+v, %v, want %+v, %v", call, got, err, want, fails)
	}
}

// starts checks the probes of one that waits.
func starts(t *testing.T, shard int, w api.Step, l []api.Edge, want ...api.Msg) {
	t.Helper()
	got, err := probe.Start(shard, w, l)
	answered(t, fmt.Sprintf("Start(%d, %v, %s)", shard, w, check.Edged(l)), got, err, want, api.OK)
}

// startsNone checks that one has no probes, as something may not be.
func startsNone(t *testing.T, shard int, w api.Step, l []api.Edge) {
	t.Helper()
	got, err := probe.Start(shard, w, l)
	answered(t, fmt.Sprintf("Start(%d, %v, %s)", shard, w, check.Edged(l)), got, err, nil, api.ErrArg)
}

// goes checks the probes by which one goes on.
func goes(t *testing.T, shard int, m api.Msg, seq int, l []api.Edge, want ...api.Msg) {
	t.Helper()
	got, err := probe.Go(shard, m, seq, l)
	answered(t, fmt.Sprintf("Go(%d, %+v, %d, %s)", shard, m, seq, check.Edged(l)), got, err, want, api.OK)
}

// goesNone checks that one doesn't go on, for that reason.
func goesNone(t *testing.T, shard int, m api.Msg, seq int, l []api.Edge, want api.Errno) {
	t.Helper()
	got, err := probe.Go(shard, m, seq, l)
	answered(t, fmt.Sprintf("Go(%d, %+v, %d, %s)", shard, m, seq, check.Edged(l)), got, err, nil, want)
}

// onward checks a probe that the coordinator sends on.
func onward(t *testing.T, shard int, m, want api.Msg) {
	t.Helper()
	if got, err := probe.Onward(shard, m); got != want || err != nil {
		t.Errorf("Onward(%d, %+v) = %+v, %v, want %+v", shard, m, got, err, want)
	}
}

// onwardNone checks that none is sent on, for that reason.
func onwardNone(t *testing.T, shard int, m api.Msg, want api.Errno) {
	t.Helper()
	if got, err := probe.Onward(shard, m); got != (api.Msg{}) || !check.Plain(err, want) {
		t.Errorf("Onward(%d, %+v) = %+v, %v, want %v", shard, m, got, err, want)
	}
}

// back checks whether one comes back, be it sent by a shard or by the coordinator.
func back(t *testing.T, m api.Msg, want bool) {
	t.Helper()
	for _, m := range []api.Msg{m, check.Down(m)} {
		if probe.Back(m) != want {
			t.Errorf("Back(%+v), want %v", m, want)
		}
	}
}

// live checks whether one is live among open requests, likewise.
func live(t *testing.T, m api.Msg, open []api.Step, want bool) {
	t.Helper()
	for _, m := range []api.Msg{m, check.Down(m)} {
		if probe.Live(m, open) != want {
			t.Errorf("Live(%+v, %v), want %v", m, open, want)
		}
	}
}

// victim checks who is one's, likewise.
func victim(t *testing.T, m api.Msg, want int) {
	t.Helper()
	for _, m := range []api.Msg{m, check.Down(m)} {
		if got, err := probe.Victim(m); got != want || err != nil {
			t.Errorf("Victim(%+v) = %d, %v, want %d", m, got, err, want)
		}
	}
}

// The document's example.
func TestExample(t *testing.T) {
	l := append(from(step(1, 4), step(2, 0)), from(step(2, 7), step(1, 0))...)
	first := of(3, step(2, 0), step(1, 4))
	second := of(5, step(1, 0), step(1, 4), step(2, 7))
	starts(t, 3, step(1, 4), l, first)
	back(t, first, false)
	goes(t, 5, first, 7, l, second)
	back(t, second, true)
	victim(t, second, 2)
}

// P12.1

func TestStartAtEachShard(t *testing.T) {
	w := step(7, 9)
	for _, shard := range shards() {
		starts(t, shard, w, from(w, step(8, 0)), of(shard, step(8, 0), w))
		starts(t, shard, w, beside(w))
		starts(t, shard, w, nil)
	}
	for _, shard := range wrongShards() {
		startsNone(t, shard, w, from(w, step(8, 0)))
		startsNone(t, shard, w, beside(w))
		startsNone(t, shard, w, nil)
	}
}

func TestStartOfEachOne(t *testing.T) {
	for _, tx := range check.Numbers() {
		for _, seq := range check.Numbers() {
			w := step(tx, seq)
			starts(t, 64, w, from(w, step(11, 12)), of(64, step(11, 12), w))
			starts(t, 1, w, nil)
		}
	}
}

func TestStartOfNone(t *testing.T) {
	for _, wrong := range check.WrongNumbers() {
		for _, right := range check.Numbers() {
			for _, w := range []api.Step{step(wrong, right), step(right, wrong), step(wrong, wrong)} {
				startsNone(t, 3, w, from(w, step(8, 0)))
				startsNone(t, 3, w, beside(w))
				startsNone(t, 3, w, nil)
			}
		}
	}
}

// Of each edge from the one that waits there is one, in order, of none else; what stands there twice is told twice.
func TestStartAlongEdges(t *testing.T) {
	w := step(7, 9)
	to := []api.Step{step(20, 0), step(3, 0), step(20, 4), step(3, 0), step(1048576, 1048576), step(3, 8), step(1, 1)}
	var want []api.Msg
	for _, s := range to {
		want = append(want, of(2, s, w))
	}
	l := from(w, to...)
	starts(t, 2, w, l, want...)
	starts(t, 2, w, slices.Concat(beside(w), l, beside(w)), want...)
	var mixed []api.Edge
	for _, e := range l {
		mixed = slices.Concat(mixed, beside(w), []api.Edge{e})
	}
	starts(t, 2, w, mixed, want...)
	starts(t, 2, w, beside(w))
	slices.Reverse(l)
	slices.Reverse(want)
	starts(t, 2, w, l, want...)
}

// One that waits for itself, by a request or a lock, has a probe that comes back.
func TestStartToItself(t *testing.T) {
	w := step(7, 9)
	for _, seq := range []int{0, 9, 10} {
		m := of(3, step(7, seq), w)
		starts(t, 3, w, from(w, step(7, seq)), m)
		back(t, m, seq != 10)
	}
}

// ends are what probes may wait for, and what none may.
func ends() (right, wrong []api.Step) {
	for _, n := range check.Numbers() {
		right = append(right, step(n, 0), step(n, n), step(n, 5), step(5, n))
	}
	for _, n := range check.WrongNumbers() {
		wrong = append(wrong, step(n, 0), step(n, n-1), step(n, 5))
		if n != 0 {
			wrong = append(wrong, step(5, n))
		}
	}
	return right, wrong
}

// eachWrong does something with lists of one, three and seven edges from one, of which that at a place, the first, the last or one between, leads to what no probe may wait for.
func eachWrong(w api.Step, do func(l []api.Edge)) {
	_, wrong := ends()
	right := []api.Step{step(20, 0), step(30, 4), step(1, 1), step(1048576, 0), step(40, 1048576), step(50, 0), step(60, 6)}
	for _, s := range wrong {
		for _, many := range []int{1, 3, 7} {
			for place := range many {
				to := slices.Clone(right[:many])
				to[place] = s
				do(from(w, to...))
			}
		}
	}
}

func TestStartToEachEnd(t *testing.T) {
	w := step(7, 9)
	right, wrong := ends()
	for _, s := range right {
		starts(t, 3, w, from(w, s), of(3, s, w))
	}
	for _, s := range wrong {
		startsNone(t, 3, w, from(w, s))
	}
	eachWrong(w, func(l []api.Edge) {
		startsNone(t, 3, w, l)
		startsNone(t, 3, w, slices.Concat(beside(w), l, beside(w)))
	})
}

// What edges of others lead to plays no part.
func TestStartBesideWrongEnds(t *testing.T) {
	w := step(7, 9)
	_, wrong := ends()
	for _, s := range wrong {
		l := slices.Concat(from(step(7, 8), s), from(w, step(8, 0)), from(step(6, 9), s), from(w, step(20, 4)), from(s, s))
		starts(t, 3, w, l, of(3, step(8, 0), w), of(3, step(20, 4), w))
		starts(t, 3, w, slices.Concat(from(step(7, 8), s), from(s, s)))
	}
}

// P12.2

// grown is a probe as it goes on, by one step more, toward another one.
func grown(shard int, m api.Msg, seq int, next api.Step) api.Msg {
	return of(shard, next, append(slices.Clone(m.Path[:m.N]), step(m.Next, seq))...)
}

// Of one to seven steps: those that were there stay, and the new one stands behind them, whoever sent the probe.
func TestGoByOneStepMore(t *testing.T) {
	for n := 1; n <= 7; n++ {
		for _, m := range []api.Msg{check.Probe(n), check.Down(check.Probe(n))} {
			want := check.Probe(n)
			want.From, want.Next, want.NextSeq, want.N, want.Path[n] = 5, 2000, 0, n+1, step(1000, 70)
			goes(t, 5, m, 70, from(step(1000, 70), step(2000, 0)), want)
			goes(t, 5, m, 70, nil)
			goes(t, 5, m, 70, beside(step(1000, 70)))
		}
	}
}

func TestGoOfEightSteps(t *testing.T) {
	for _, m := range []api.Msg{check.Probe(8), check.Down(check.Probe(8))} {
		for _, l := range [][]api.Edge{nil, from(step(1000, 70), step(2000, 0)), from(step(1000, 70), step(100, 0)), beside(step(1000, 70))} {
			goesNone(t, 5, m, 70, l, api.ErrLong)
			m.NextSeq = 0
			goesNone(t, 5, m, 70, l, api.ErrLong)
		}
	}
}

// Of each edge from Next, by the request by which it waits, there is one, in order, of none else.
func TestGoAlongEdges(t *testing.T) {
	m, w := check.Probe(3), step(1000, 70)
	to := []api.Step{step(20, 0), step(3, 0), step(100, 4), step(3, 0), step(1048576, 1048576), step(1000, 70), step(102, 0), step(1, 1)}
	for _, m.NextSeq = range []int{0, 70} {
		var want []api.Msg
		for _, s := range to {
			want = append(want, grown(2, m, 70, s))
		}
		l := from(w, to...)
		goes(t, 2, m, 70, l, want...)
		goes(t, 2, m, 70, slices.Concat(beside(w), from(step(100, 200), step(7, 0)), l, beside(w)), want...)
		slices.Reverse(l)
		slices.Reverse(want)
		goes(t, 2, m, 70, slices.Concat(from(step(102, 202), step(7, 0)), l), want...)
	}
}

// Whichever request Next waits by, the one that a probe names is that, or it names none.
func TestGoByEachRequest(t *testing.T) {
	for _, seq := range check.Numbers() {
		for _, named := range append(check.Numbers(), 0) {
			m := of(4, step(1000, named), step(7, 9))
			l := from(step(1000, seq), step(2000, 0))
			if named == 0 || named == seq {
				goes(t, 5, m, seq, l, grown(5, m, seq, step(2000, 0)))
				goes(t, 5, m, seq, beside(step(1000, seq)))
			} else {
				goesNone(t, 5, m, seq, l, api.ErrStale)
				goesNone(t, 5, m, seq, from(step(1000, named), step(2000, 0)), api.ErrStale)
				goesNone(t, 5, m, seq, nil, api.ErrStale)
			}
		}
	}
}

// By a request that may not be there is no probe; where no edge is from it, none is asked for.
func TestGoByNoRequest(t *testing.T) {
	for _, seq := range check.WrongNumbers() {
		m := of(4, step(1000, 0), step(7, 9))
		goesNone(t, 5, m, seq, from(step(1000, seq), step(2000, 0)), api.ErrArg)
		goes(t, 5, m, seq, beside(step(1000, seq)))
		goes(t, 5, m, seq, nil)
		for _, m.NextSeq = range check.Numbers() {
			goesNone(t, 5, m, seq, from(step(1000, seq), step(2000, 0)), api.ErrStale)
			goesNone(t, 5, m, seq, nil, api.ErrStale)
		}
	}
}

// What stands ahead of ErrArg is told of such a request, too.
func TestGoByNoRequestOfSeveralErrors(t *testing.T) {
	for _, seq := range check.WrongNumbers() {
		for _, m := range []api.Msg{check.Probe(8), check.Probe(3)} {
			m.NextSeq = 0
			if m.N == 8 {
				goesNone(t, 5, m, seq, from(step(m.Next, seq), step(2000, 0)), api.ErrLong)
			}
			m.Next = 101
			goesNone(t, 5, m, seq, from(step(m.Next, seq), step(2000, 0)), api.ErrState)
			m.NextSeq = 201
			goesNone(t, 5, m, seq, from(step(m.Next, seq), step(2000, 0)), api.ErrStale)
			m.Tx = 1
			goesNone(t, 5, m, seq, from(step(m.Next, seq), step(2000, 0)), api.ErrForm)
		}
	}
}

// From a shard that isn't there comes no probe; where there is no edge, none is asked for.
func TestGoAtEachShard(t *testing.T) {
	m, l := check.Probe(3), from(step(1000, 70), step(2000, 0))
	for _, shard := range shards() {
		goes(t, shard, m, 70, l, grown(shard, m, 70, step(2000, 0)))
		goes(t, shard, check.Down(m), 70, l, grown(shard, m, 70, step(2000, 0)))
	}
	for _, shard := range wrongShards() {
		goesNone(t, shard, m, 70, l, api.ErrArg)
		goes(t, shard, m, 70, beside(step(1000, 70)))
		goes(t, shard, m, 70, nil)
	}
}

func TestGoToEachEnd(t *testing.T) {
	m, w := check.Probe(3), step(1000, 70)
	right, wrong := ends()
	for _, s := range right {
		goes(t, 3, m, 70, from(w, s), grown(3, m, 70, s))
	}
	for _, s := range wrong {
		goesNone(t, 3, m, 70, from(w, s), api.ErrArg)
		goes(t, 3, m, 70, slices.Concat(from(step(1000, 71), s), from(w, step(8, 0)), from(step(100, 200), s)), grown(3, m, 70, step(8, 0)))
	}
	eachWrong(w, func(l []api.Edge) {
		goesNone(t, 3, m, 70, l, api.ErrArg)
		goesNone(t, 3, m, 70, slices.Concat(beside(w), l, beside(w)), api.ErrArg)
	})
}

// A probe whose Next is one of its steps' goes no further, whichever of them that is, and by whatever request; neither one that has come back, nor one that goes round beside who began it.
func TestGoToAStep(t *testing.T) {
	for n := 1; n <= 8; n++ {
		for place := range n {
			m := check.Probe(n)
			m.Next = m.Path[place].Tx
			for _, m.NextSeq = range []int{0, 70, 200 + place} {
				seq := max(m.NextSeq, 7)
				goesNone(t, 5, m, seq, from(step(m.Next, seq), step(2000, 0)), api.ErrState)
				goesNone(t, 5, m, seq, nil, api.ErrState)
				goesNone(t, 5, check.Down(m), seq, nil, api.ErrState)
				if m.NextSeq != 0 {
					goesNone(t, 5, m, seq+1, nil, api.ErrStale)
				}
			}
		}
	}
}

// A step's request may be named by another one, as it is another transaction's; it isn't gone to again.
func TestGoByARequestOfAStepsNumber(t *testing.T) {
	m := check.Probe(3)
	m.NextSeq = 200
	goes(t, 5, m, 200, from(step(1000, 200), step(200, 101)), grown(5, m, 200, step(200, 101)))
}

// wrongAt are, for one that may go on by a request, shards and edges of which one may not be.
func wrongAt(w api.Step) map[int][]api.Edge {
	return map[int][]api.Edge{
		0:  from(w, step(2000, 0)),
		65: from(w, step(2000, 0)),
		-3: from(w, step(0, 0)),
		5:  from(w, step(2000, 0), step(0, 0)),
		6:  from(w, step(1048577, 0), step(2000, 0)),
		7:  from(w, step(2000, -1)),
		8:  from(w, step(2000, 1048577)),
	}
}

// spoiled are a probe, or what it is when it is none any more.
func spoiled(m api.Msg, form bool) []api.Msg {
	if !form {
		return []api.Msg{m, check.Down(m)}
	}
	kind, code, tx, zero, twice := m, m, m, m, m
	kind.Kind, code.Code, tx.Tx = api.KWound, 1, m.Next
	zero.Path[0].Tx = 0
	twice.Path[1].Tx = m.Path[0].Tx
	return []api.Msg{kind, code, tx, zero, twice}
}

// Each error alone, and together with all sets of the others: the first one is told.
func TestGoOfSeveralErrors(t *testing.T) {
	kinds := []api.Errno{api.ErrForm, api.ErrStale, api.ErrState, api.ErrLong, api.ErrArg}
	for set := range 32 {
		has := func(n api.Errno) bool { return set>>slices.Index(kinds, n)&1 == 1 }
		m, seq, want := check.Probe(4), 70, api.OK
		if first := slices.IndexFunc(kinds, has); first >= 0 {
			want = kinds[first]
		}
		if has(api.ErrLong) {
			m = check.Probe(8)
		}
		if has(api.ErrState) {
			m.Next = m.Path[2].Tx
		}
		if has(api.ErrStale) {
			seq = 71
		}
		cases := map[int][]api.Edge{9: nil}
		if has(api.ErrArg) {
			cases = wrongAt(step(m.Next, seq))
		}
		for shard, l := range cases {
			for _, m := range spoiled(m, has(api.ErrForm)) {
				got, err := probe.Go(shard, m, seq, l)
				answered(t, fmt.Sprintf("Go(%d, %+v, %d, %s)", shard, m, seq, check.Edged(l)), got, err, nil, want)
			}
		}
	}
}

// P12.3

func TestOnwardToEachShard(t *testing.T) {
	for n := 1; n <= 8; n++ {
		for _, m := range []api.Msg{check.Probe(n), check.Down(check.Probe(n))} {
			for _, shard := range shards() {
				want := m
				want.From, want.To = 0, shard
				onward(t, shard, m, want)
			}
			for _, shard := range wrongShards() {
				onwardNone(t, shard, m, api.ErrArg)
			}
		}
	}
}

// A probe that comes back, and one whose Next is a step's, are sent on as all others are.
func TestOnwardChangesNothingElse(t *testing.T) {
	m := check.Probe(8)
	for _, m.Next = range []int{1, 100, 107, 1048576} {
		for _, m.NextSeq = range []int{0, 1, 200, 207, 1048576} {
			want := m
			want.From, want.To = 0, 64
			onward(t, 64, m, want)
		}
	}
}

// A probe comes back, if it waits for its first step's transaction, by that step's request or by none.
func TestBack(t *testing.T) {
	for n := 1; n <= 8; n++ {
		m := check.Probe(n)
		back(t, m, false)
		m.NextSeq = 0
		back(t, m, false)
		for place := range n {
			m.Next = 100 + place
			for _, m.NextSeq = range []int{0, 200} {
				back(t, m, place == 0)
			}
			for _, m.NextSeq = range []int{1, 100, 199, 201, 202, 207, 1048576} {
				back(t, m, false)
			}
		}
		for _, m.Next = range []int{1, 99, 108, 200, 1048576} {
			for _, m.NextSeq = range []int{0, 200} {
				back(t, m, false)
			}
		}
	}
}

func TestBackAtTheEdges(t *testing.T) {
	for _, tx := range check.Numbers() {
		for _, seq := range check.Numbers() {
			back(t, of(64, step(tx, seq), step(tx, seq)), true)
			back(t, of(64, step(tx, 0), step(tx, seq)), true)
			back(t, of(64, step(tx, seq), step(5, 6), step(tx, seq)), false)
		}
	}
}

func TestLive(t *testing.T) {
	for n := 1; n <= 8; n++ {
		m := check.Probe(n)
		steps := slices.Clone(m.Path[:n])
		more := slices.Concat([]api.Step{step(1, 1), step(100, 999)}, steps, []api.Step{step(1000, 70), {}, step(-1, -1)}, steps)
		turned := slices.Clone(steps)
		slices.Reverse(turned)
		for _, open := range [][]api.Step{steps, more, turned} {
			live(t, m, open, true)
		}
		live(t, m, nil, false)
		live(t, m, []api.Step{}, false)
		live(t, m, []api.Step{step(1000, 70), {}}, false)
		for place, s := range steps {
			live(t, m, slices.Delete(slices.Clone(steps), place, place+1), false)
			for _, other := range []api.Step{{}, step(s.Tx, s.Seq+1), step(s.Tx, s.Seq-1), step(s.Tx, 0), step(s.Tx+50, s.Seq), step(s.Seq, s.Tx), step(s.Tx+1<<32, s.Seq)} {
				open := slices.Clone(steps)
				open[place] = other
				live(t, m, open, false)
				live(t, m, append(open, s), true)
				live(t, m, slices.DeleteFunc(slices.Clone(more), func(o api.Step) bool { return o == s }), false)
			}
		}
	}
}

func TestVictim(t *testing.T) {
	for n := 1; n <= 8; n++ {
		victim(t, check.Probe(n), 99+n)
		for place := range n {
			for _, greatest := range []int{108, 1000, 1001, 1048576} {
				m := check.Probe(n)
				m.Path[place] = step(greatest, 1)
				victim(t, m, greatest)
				m.Next, m.NextSeq = 1048576, 1048576 // it plays no part, nor do the requests' numbers
				victim(t, m, greatest)
			}
		}
		low := check.Probe(n)
		for i := range n {
			low.Path[i] = step(n-i, 9000+i)
		}
		victim(t, low, n)
	}
}

// noProbes are messages of all other kinds, and what is no probe, each as near to one that comes back as it can be.
func noProbes() []api.Msg {
	l := slices.Concat(check.Others(), check.WrongMessages())
	for _, m := range check.WrongProbes() {
		if m.Next == 1000 {
			m.Next = m.Path[0].Tx
		} else {
			m.Path[0].Tx = m.Next
		}
		if m.NextSeq != 70 {
			m.Path[0].Seq = m.NextSeq
		}
		again := m
		again.NextSeq = 0
		l = append(l, m, again)
	}
	return slices.DeleteFunc(l, isProbe)
}

func TestNoProbes(t *testing.T) {
	all := noProbes()
	if len(all) < 500 {
		t.Error(len(all))
	}
	for _, m := range all {
		open := append([]api.Step{step(m.Tx, m.Seq)}, m.Path[:]...)
		for _, seq := range []int{m.NextSeq, m.Seq, 0, 70} {
			goesNone(t, 3, m, seq, nil, api.ErrForm)
			goesNone(t, 3, m, seq, from(step(m.Next, seq), step(8, 0)), api.ErrForm)
			goesNone(t, 65, m, seq, from(step(m.Next, seq), step(0, 0)), api.ErrForm)
		}
		for _, shard := range []int{1, 3, 64, 0, 65, -1} {
			onwardNone(t, shard, m, api.ErrForm)
		}
		if probe.Back(m) || probe.Live(m, open) || probe.Live(m, nil) {
			t.Errorf("Back, Live of %+v: %v, %v, %v", m, probe.Back(m), probe.Live(m, open), probe.Live(m, nil))
		}
		if n, err := probe.Victim(m); n != 0 || !check.Plain(err, api.ErrForm) {
			t.Errorf("Victim(%+v) = %d, %v", m, n, err)
		}
	}
}

// What is handed in stays as it was, its spare room included; answers are nobody else's.
func TestOwnMemory(t *testing.T) {
	w, m := step(7, 9), check.Probe(3)
	wrong := api.Edge{From: -1, Seq: -1, To: -1, ToSeq: -1}
	edges := slices.Concat(from(w, step(8, 0), step(20, 4)), from(step(1000, 70), step(8, 0), step(100, 0)), []api.Edge{wrong, wrong})
	l, kept := edges[:4], slices.Clone(edges)
	open := append(slices.Clone(m.Path[:3]), step(-1, -1), step(-2, -2))
	steps, all := open[:3], slices.Clone(open)
	started, err := probe.Start(2, w, l)
	gone, errGo := probe.Go(2, m, 70, l)
	if err != nil || errGo != nil || !probe.Live(m, steps) {
		t.Fatal(err, errGo, probe.Live(m, steps))
	}
	toStart, toGo := slices.Clone(started), slices.Clone(gone)
	check.Spoil(started, api.Msg{Kind: -1, N: -1})
	check.Spoil(gone, api.Msg{Kind: -1, N: -1})
	starts(t, 2, w, l, toStart...)
	goes(t, 2, m, 70, l, toGo...)
	if !slices.Equal(edges, kept) || !slices.Equal(open, all) || m != check.Probe(3) {
		t.Error(edges, open, m)
	}
	check.Spoil(edges, wrong) // what was told stays
	if !slices.Equal(toStart, []api.Msg{of(2, step(8, 0), w), of(2, step(20, 4), w)}) {
		t.Error(toStart)
	}
}

// Very many edges end soon, whether they fit or not.
func TestVeryMany(t *testing.T) {
	const n = 200000
	w, m := step(7, 9), check.Probe(7)
	var to []api.Step
	for i := range n {
		to = append(to, step(i+1, i%3))
	}
	l, other := from(w, to...), from(step(1000, 71), to...)
	started, err := probe.Start(2, w, slices.Concat(other, l))
	if len(started) != n || err != nil || started[0] != of(2, to[0], w) || started[n-1] != of(2, to[n-1], w) {
		t.Error(len(started), err)
	}
	l = from(step(1000, 70), to...)
	gone, err := probe.Go(2, m, 70, slices.Concat(l, other))
	if len(gone) != n || err != nil || gone[0] != grown(2, m, 70, to[0]) || gone[n-1] != grown(2, m, 70, to[n-1]) {
		t.Error(len(gone), err)
	}
	goesNone(t, 2, m, 70, append(l, from(step(1000, 70), step(0, 0))...), api.ErrArg)
	live(t, m, to, false)
	live(t, m, append(to, m.Path[:]...), true)
}

// some is one of a list, by chance.
func some[E any](by *uint64, l ...E) E { return l[check.Next(by)%len(l)] }

// someNumber is one that may be, mostly a low one, or now and then none.
func someNumber(by *uint64) int {
	if check.Next(by)%40 == 0 {
		return some(by, check.WrongNumbers()...)
	}
	return 1 + check.Next(by)%9
}

// someSteps are up to so many, or now and then one more, mostly of different transactions.
func someSteps(by *uint64, most int) []api.Step {
	var l []api.Step
	for range 1 + check.Next(by)%most {
		l = append(l, step(someNumber(by), someNumber(by)))
	}
	slices.SortFunc(l, func(a, b api.Step) int { return a.Tx - b.Tx })
	if check.Next(by)%20 > 0 {
		l = slices.CompactFunc(l, func(a, b api.Step) bool { return a.Tx == b.Tx })
	}
	check.Mix(l, by)
	return l
}

// someEdges are a few, mostly from one.
func someEdges(by *uint64, w api.Step) []api.Edge {
	var l []api.Edge
	for range check.Next(by) % 7 {
		e := api.Edge{From: w.Tx, Seq: w.Seq, To: someNumber(by), ToSeq: check.Next(by) % 4}
		switch check.Next(by) % 6 {
		case 0:
			e.From = someNumber(by)
		case 1:
			e.Seq = someNumber(by)
		case 2:
			e.ToSeq = someNumber(by)
		}
		l = append(l, e)
	}
	return l
}

// P12.1, P12.2: many sets of edges, and probes along them, by chance.
func TestMany(t *testing.T) {
	by, met := uint64(12), map[api.Errno]int{}
	for range 300000 {
		shard := some(&by, 1, 2, 3, 4, 5, 6, 7, 8, 9, 10, 63, 64, some(&by, 2, 0, 65, -1))
		w, steps := step(someNumber(&by), someNumber(&by)), someSteps(&by, 15)
		l := someEdges(&by, w)
		want, fails := bookOfStart(shard, w, l)
		got, err := probe.Start(shard, w, l)
		answered(t, fmt.Sprintf("Start(%d, %v, %s)", shard, w, check.Edged(l)), got, err, want, fails)
		m := of(some(&by, 3, 3, 3, 64), step(w.Tx, some(&by, 0, 0, w.Seq, w.Seq, w.Seq, someNumber(&by))), steps[:min(len(steps), 8)]...)
		want, fails = bookOfGo(shard, m, w.Seq, l)
		got, err = probe.Go(shard, m, w.Seq, l)
		answered(t, fmt.Sprintf("Go(%d, %+v, %d, %s)", shard, m, w.Seq, check.Edged(l)), got, err, want, fails)
		check.Stop(t)
		if fails == api.OK && len(want) == 0 {
			fails = -1
		}
		met[fails]++
	}
	for _, n := range []api.Errno{-1, api.OK, api.ErrForm, api.ErrStale, api.ErrState, api.ErrLong, api.ErrArg} {
		if met[n] < 500 {
			t.Error(int(n), met)
		}
	}
}
