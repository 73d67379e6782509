package txn_test

import (
	"math"
	"slices"
	"testing"

	"catchbolt/api"
	"catchbolt/check"
	"catchbolt/txn"
)

// badly are, of a message, all that have another number in one place than it has; some of them may be.
func badly(m api.Msg) []api.Msg {
	var all []api.Msg
	add := func(change func(one *api.Msg, n int)) {
		for _, n := range []int{math.MinInt64, -1 << 32, -256, -1, 0, 1, 2, 3, 4, 5, 6, 7, 8, 9, 14, 15, 16, 64, 65, 250, 251, 255, 256, 257, 263, 1048576, 1048577, 1 << 32, 1<<32 + 2, 1<<32 + 7, math.MaxInt64} {
			one := m
			change(&one, n)
			if one != m {
				all = append(all, one)
			}
		}
	}
	add(func(one *api.Msg, n int) { one.Kind = n })
	add(func(one *api.Msg, n int) { one.From = n })
	add(func(one *api.Msg, n int) { one.To = n })
	add(func(one *api.Msg, n int) { one.Tx = n })
	add(func(one *api.Msg, n int) { one.Seq = n })
	add(func(one *api.Msg, n int) { one.At.Table = n })
	add(func(one *api.Msg, n int) { one.At.Row = n })
	add(func(one *api.Msg, n int) { one.Mode = api.Mode(n) })
	add(func(one *api.Msg, n int) { one.Code = n })
	add(func(one *api.Msg, n int) { one.Next = n })
	add(func(one *api.Msg, n int) { one.NextSeq = n })
	add(func(one *api.Msg, n int) { one.N = n })
	add(func(one *api.Msg, n int) { one.Path[0] = api.Step{Tx: n, Seq: n} })
	add(func(one *api.Msg, n int) { one.Path[7].Seq = n })
	return all
}

// P17.1 to P17.3, by what a book and a transaction tell.

func TestMessagesWithOneOtherNumber(t *testing.T) {
	for _, l := range pasts() {
		b, x := book{tx: mine}, begun(t, mine)
		for _, d := range l {
			b, x = b.both(t, x, d)
			b.tells(t, x)
		}
		seq := max(x.Seq, 1)
		for _, right := range []api.Msg{granted(2, seq, "3.14", api.X), granted(5, seq, "5", api.S), refused(2, seq, 9), voted(5, 1), voted(9, 0), acked(2)} {
			for _, m := range append(badly(right), right) {
				for _, d := range []move{answer(m), vote(m), ack(m)} {
					b.both(t, x, d)
				}
			}
			check.Stop(t)
		}
	}
}

// world is what there may be, for moves of all kinds: requests, and how many of them at most.
type world struct {
	shards, reasons []int
	places          []string
	modes           []api.Mode
	seqs            int
}

// moves are all that there may be, some wrong ones among them.
func (w world) moves() []move {
	l := []move{finish(), {}, {kind: asks, shard: 65, at: check.At("3"), mode: api.S}, answer(acked(2)), vote(acked(2)), ack(voted(2, 1)), ack(of(8, acked(2))), vote(of(8, voted(2, 1)))}
	for _, reason := range w.reasons {
		l = append(l, abort(reason))
	}
	for _, shard := range w.shards {
		l = append(l, vote(voted(shard, 0)), vote(voted(shard, 1)), ack(acked(shard)))
		for seq := 1; seq <= w.seqs+1; seq++ {
			l = append(l, answer(refused(shard, seq, 9)))
		}
		for _, place := range w.places {
			for _, m := range w.modes {
				l = append(l, ask(shard, place, m))
				for seq := 1; seq <= w.seqs+1; seq++ {
					l = append(l, answer(granted(shard, seq, place, m)))
				}
			}
		}
	}
	return l
}

// eachState calls f with each book, and its transaction, that moves can make of a new one by no more requests than there may be.
func (w world) eachState(t *testing.T, f func(b book, x txn.Txn)) int {
	t.Helper()
	seen := map[string]bool{}
	every, next := w.moves(), []book{{tx: mine}}
	for len(next) > 0 {
		b := next[0]
		next = next[1:]
		if x := b.is(); !seen[check.Txn(x)] && x.Seq <= w.seqs {
			seen[check.Txn(x)] = true
			f(b, made(t, b.all))
			for _, d := range every {
				if b.refusal(d) == api.OK {
					next = append(next, b.with(d))
				}
			}
		}
	}
	return len(seen)
}

func TestEachMoveFromEachState(t *testing.T) {
	for _, q := range []struct {
		w      world
		states int // of Active ones, Preparing ones, Committed ones with their acknowledgements, and aborted ones with their reasons, votes and acknowledgements
	}{
		{world{[]int{2}, []int{0, 1, 2, 3, 4, 5, 6}, []string{"3"}, []api.Mode{api.S}, 3}, 22 + 14 + (1 + 14*2) + (5 + 14*5*2)},
		{world{[]int{2, 5, 64}, []int{1, 5}, []string{"3"}, []api.Mode{api.X}, 2}, 64 + (18 + 24*3) + (1 + 18*2 + 24*4) + (2 + 18*3*2 + 24*3*3*4)},
		{world{[]int{5, 2}, []int{3}, []string{"3", "3.1"}, []api.Mode{api.S, api.X}, 2}, 353 + (144 + 120*3) + (1 + 144*2 + 120*4) + (1 + 144*2*2 + 120*2*3*4)},
	} {
		every := q.w.moves()
		states := q.w.eachState(t, func(b book, x txn.Txn) {
			b.tells(t, x)
			for _, d := range every {
				b.both(t, x, d)
			}
			check.Stop(t)
		})
		if states != q.states {
			t.Errorf("%d moves: %d states", len(every), states)
		}
	}
}

// anyMessages are some that may be, and some that may not be.
var anyMessages = append(check.Messages(), check.WrongMessages()...)

// picked is a move by chance, of shards, places and numbers up to those: one that may well be next, or any, also one that may not be.
func picked(by *uint64, x txn.Txn, many int) move {
	shard, seq := 1+check.Next(by)%many, max(1, x.Seq)
	place, m := []string{"3", "3.1", "250", "1.250"}[check.Next(by)%4], check.Modes()[check.Next(by)%4]
	switch n := check.Next(by) % 40; {
	case x.Open && n < 25:
		return answer([]api.Msg{refused(x.Shard, seq, 1+n%15), {Kind: api.KGranted, From: x.Shard, Tx: mine, Seq: seq, At: x.At, Mode: m}}[n%2])
	case x.State == txn.Active && n < 30:
		return ask(shard, place, m)
	case n < 24:
		return []move{vote(voted(shard, 1)), ack(acked(shard))}[min(1, x.State/3)]
	case n < 26:
		return []move{vote(voted(shard, 1)), ack(acked(shard))}[n%2]
	case n < 28:
		return []move{answer(refused(shard, seq, 9)), answer(granted(shard, seq, place, m))}[n%2]
	case n < 32:
		return finish()
	case n < 34:
		return vote(voted(shard, min(1, check.Next(by)%4)))
	case n < 35:
		return abort(check.Next(by) % 12)
	case n < 36:
		return move{kind: asks, shard: noShards()[check.Next(by)%30], at: check.At(place), mode: m}
	}
	return move{kind: check.Next(by) % kinds, m: anyMessages[check.Next(by)%len(anyMessages)], shard: shard, at: check.At(place), mode: m, reason: 9}
}

// eachRun calls f with a number of shards, for that many runs of each.
func eachRun(runs int, f func(many int, by *uint64)) {
	by := uint64(17)
	for range runs {
		for _, many := range []int{1, 2, 3, 5, 10, 64} {
			f(many, &by)
		}
	}
}

func TestRunsAgainstABook(t *testing.T) {
	states := map[int]int{}
	eachRun(200, func(many int, by *uint64) {
		b, x := book{tx: mine}, begun(t, mine)
		for range 20 + check.Next(by)%(10*many) {
			b, x = b.both(t, x, picked(by, x, many))
			check.Stop(t)
		}
		b.tells(t, x)
		states[x.State]++
	})
	if len(states) != 4 {
		t.Errorf("they end in %v", states)
	}
}

// P17.4

// lore is what the calls told of a transaction till now: of which shards it asked, which voted for it, whether it was asked to finish, and as what it was decided, and why.
type lore struct {
	asked, voted  [65]bool
	finished      bool
	state, reason int
}

// broken is what of P17.4 is broken by what is sent, or by what it is; nothing, if nothing is.
func (l lore) broken(x txn.Txn, sent []api.Msg) string {
	all := l.finished
	for shard := range l.asked {
		all = all && (!l.asked[shard] || l.voted[shard])
	}
	switch {
	case slices.ContainsFunc(sent, func(m api.Msg) bool { return m.To < 1 || m.To > 64 || !l.asked[m.To] }):
		return "it is sent to others"
	case l.state != 0 && (x.State != l.state || x.Reason != l.reason):
		return "it is decided twice"
	case l.state != 0 && len(sent) > 0:
		return "it is told twice, unasked"
	case all != (x.State == txn.Committed):
		return "it isn't committed just if all voted for it"
	}
	return ""
}

// onward is the lore behind a move, if P17.4 holds.
func (l lore) onward(t *testing.T, x txn.Txn, d move) (lore, txn.Txn) {
	one, sent, err := told(x, d)
	switch {
	case err != nil && (!check.SameTxn(one, x) || len(sent) > 0):
		t.Fatalf("%+v of %s = %s, %s, %v", d, check.Txn(x), check.Txn(one), check.SentTo(sent), err)
	case err != nil:
		return l, x
	case d.kind == asks:
		l.asked[d.shard] = true
	case d.kind == finishes && x.Open:
		t.Fatalf("%s is asked to finish", check.Txn(x))
	case d.kind == finishes:
		l.finished = true
	case d.kind == votes && d.m.Code == 1:
		l.voted[d.m.From] = true
	}
	if broken := l.broken(one, sent); broken != "" {
		t.Fatalf("%s: %+v of %s makes %s, and sends %s", broken, d, check.Txn(x), check.Txn(one), check.SentTo(sent))
	}
	for _, alive := range []bool{false, true} {
		if again := txn.Again(one, alive); slices.ContainsFunc(again, func(m api.Msg) bool { return m.To < 1 || m.To > 64 || !l.asked[m.To] }) {
			t.Fatalf("it is sent to others: Again(%s, %v) = %s", check.Txn(one), alive, check.SentTo(again))
		}
	}
	if txn.Decided(one) && l.state == 0 {
		l.state, l.reason = one.State, one.Reason
	}
	return l, one
}

func TestItIsDecidedOnce(t *testing.T) {
	ends := map[int]int{}
	eachRun(1000, func(many int, by *uint64) {
		l, x := lore{}, begun(t, mine)
		for range 20 + check.Next(by)%(10*many) {
			l, x = l.onward(t, x, picked(by, x, many))
		}
		ends[l.state]++
	})
	if len(ends) != 3 {
		t.Errorf("they are decided as %v", ends)
	}
}

// runs goes through all runs of moves that are so many longer, and counts them. Behind a move that changes nothing it doesn't go on, as all that may follow is gone through without it.
func (l lore) runs(t *testing.T, x txn.Txn, every []move, more int, many *int) {
	for _, d := range every {
		next, one := l.onward(t, x, d)
		if *many++; *many > 20000000 { // more are changed than may be
			t.Fatalf("%d runs", *many)
		}
		if more > 1 && !check.SameTxn(one, x) {
			next.runs(t, one, every, more-1, many)
		}
	}
}

func TestEachRun(t *testing.T) {
	every := slices.Concat(yes(2, 5), heard(2, 5), []move{
		finish(), abort(txn.ByClient), abort(txn.ByWound), abort(6), vote(voted(2, 0)), vote(voted(5, 0)), vote(voted(9, 0)), vote(voted(9, 1)), ack(acked(9)),
		ask(2, "3", api.S), ask(5, "3", api.X), {kind: asks, shard: 9, at: api.Res{Table: 3}, mode: 5}, vote(of(8, voted(2, 1))), ack(voted(2, 1)),
	})
	for seq := 1; seq <= 5; seq++ {
		for _, shard := range []int{2, 5} {
			every = append(every, answer(refused(shard, seq, 9)), answer(granted(shard, seq, "3", api.X)))
		}
	}
	many := 0
	lore{}.runs(t, begun(t, mine), every, 16, &many)
	if many < 1000000 {
		t.Errorf("%d runs", many)
	}
}
