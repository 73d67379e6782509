package coord_test

import (
	"math"
	"slices"
	"strings"
	"testing"

	"catchbolt/api"
	"catchbolt/check"
	"catchbolt/coord"
	"catchbolt/msg"
)

// P18.3

// some are coordinators whose transactions are in all states.
func some(t *testing.T, c api.Config) []*coord.Coord {
	t.Helper()
	all := []*coord.Coord{made(t, c, 1), made(t, c, 8)}
	for _, end := range append(ends(c.Probe), nil, []move{lock(2, "3", api.X)}, locked(2, 1, 3, 1), append(locked(2, 1, 3), commit(2)), append(locked(2, 1, 3, 1), commit(2), voted(1, 1, 1)), append(locked(2, 1, 3, 1), abort(2), acked(1, 1))) {
		all = append(all, made(t, c, 3, []move{begin(2)}, end))
		all = append(all, made(t, c, 3, []move{begin(2)}, end, []move{begin(1)}, locked(1, 2, 4), []move{lock(1, "3", api.S), begin(3), crash(2)}))
	}
	return all
}

func TestHandleOfWhatMayNotBe(t *testing.T) {
	wrong := check.WrongMessages()
	for _, m := range check.WrongMessages() { // to a shard, or from one above, ErrForm is the first
		m.From, m.To = m.To, m.From
		wrong = append(wrong, m)
		m.From = 65
		wrong = append(wrong, m)
		m.From, m.To = 1, 1
		wrong = append(wrong, m)
	}
	check.Both(func(c api.Config) {
		for _, o := range some(t, c) {
			for _, m := range wrong {
				if msg.Ok(m) != nil { // some of those that are turned may be
					mayNot(t, o, come(m), api.ErrForm)
				}
			}
			check.Stop(t)
		}
	})
}

// toShards are messages that may be, of each kind that goes to shards.
func toShards() []api.Msg {
	all := slices.DeleteFunc(check.Messages(), func(m api.Msg) bool { return m.To == 0 })
	for _, tx := range []int{1, 2, 3, 1048576} {
		for shard := 1; shard <= 64; shard++ {
			all = append(all,
				api.Msg{Kind: api.KLock, To: shard, Tx: tx, Seq: 1, At: check.At("3"), Mode: api.X}, api.Msg{Kind: api.KPrepare, To: shard, Tx: tx},
				api.Msg{Kind: api.KDecide, To: shard, Tx: tx, Code: shard % 2}, api.Msg{Kind: api.KRenew, To: shard, Tx: tx},
				api.Msg{Kind: api.KProbe, To: shard, Next: tx, N: 1, Path: [8]api.Step{{Tx: 1, Seq: 1}}},
			)
		}
	}
	return all
}

func TestHandleOfWhatIsToShards(t *testing.T) {
	check.Both(func(c api.Config) {
		for _, o := range some(t, c) {
			for _, m := range toShards() {
				mayNot(t, o, come(m), api.ErrArg)
			}
			check.Stop(t)
		}
	})
}

// fromShard are messages that a shard may send, of each kind, of that transaction.
func fromShard(shard, tx int) []move {
	all := []move{
		granted(shard, tx, 1, "3", api.X), refused(shard, tx, 1, 9), voted(shard, tx, 0), voted(shard, tx, 1), acked(shard, tx), expired(shard, tx),
		probing(shard, step(tx, 1), step(tx, 1)), probing(shard, step(1, 0), step(tx, 1)), probing(shard, step(tx, 0), step(1, 1)),
	}
	if tx > 1 {
		all = append(all, wounded(shard, tx, 1), wounded(shard, tx, tx-1))
	}
	return all
}

func TestHandleOfShardsAboveTheConfigs(t *testing.T) {
	check.Both(func(c api.Config) {
		for c.Shards = 1; c.Shards <= 64; c.Shards++ {
			o := made(t, c, 2, []move{begin(1), lock(1, "3", api.X), begin(2)})
			for shard := c.Shards + 1; shard <= 64; shard++ {
				for _, tx := range []int{1, 2, 3} {
					for _, d := range fromShard(shard, tx) {
						mayNot(t, o, d, api.ErrArg)
					}
				}
			}
			does(t, o, expired(c.Shards, 2), "", "aborted 2 5") // the last one's is one of them
			check.Stop(t)
		}
	})
}

func TestHandleOfATransactionThatNeverBegan(t *testing.T) {
	check.Both(func(c api.Config) {
		for _, o := range some(t, c) {
			last := o.View().Last
			for _, tx := range []int{last + 1, last + 2, last + 7, last + 256, last + 65536, 1048575, 1048576} {
				for _, d := range fromShard(1+tx%4, tx) {
					nothing(t, o, d)
				}
			}
			check.Stop(t)
		}
	})
}

// Answers.

func TestGranted(t *testing.T) {
	check.Both(func(c api.Config) {
		for _, text := range []string{"1", "3.14", "250", "250.250"} {
			shard := (check.At(text).Table-1)%4 + 1
			for _, asked := range check.Modes() {
				for _, m := range check.Modes() {
					o := made(t, c, 2, []move{begin(2), begin(1), lock(1, text, asked)})
					does(t, o, granted(shard, 2, 1, text, m), "", "granted 2 "+text+check.Mode(m))
					is(t, o, 1, "1 Active")
					is(t, o, 2, "2 Active; request 1 of "+to(text+check.Mode(asked), shard)+"; touched "+check.Step(shard, 0)+"; got "+text+":2.1"+check.Mode(m))
					nothing(t, o, granted(shard, 2, 1, text, m)) // the same once more
				}
			}
		}
	})
}

func TestRefused(t *testing.T) {
	check.Both(func(c api.Config) {
		for code := 1; code <= 15; code++ {
			o := made(t, c, 2, []move{begin(2), begin(1), lock(1, "3.14", api.X)})
			does(t, o, refused(3, 2, 1, code), "", "refused 2 3.14 "+check.Step(code, 0))
			is(t, o, 2, "2 Active; request 1 of 3: 3.14X; touched 3")
			nothing(t, o, refused(3, 2, 1, code))
			nothing(t, o, granted(3, 2, 1, "3.14", api.X))
		}
	})
}

func TestAnswersThatAreStale(t *testing.T) {
	check.Both(func(c api.Config) {
		o := made(t, c, 3, []move{begin(1)}, locked(1, 1, 2), []move{lock(1, "3.14", api.X), begin(2), lock(2, "3", api.X), begin(3)})
		for _, d := range []move{
			granted(2, 1, 2, "3.14", api.X), granted(3, 1, 1, "3.14", api.X), granted(3, 1, 3, "3.14", api.X), granted(3, 1, 2, "3", api.X), granted(3, 1, 2, "3.13", api.X), granted(2, 1, 1, "2", api.X),
			refused(2, 1, 2, 9), refused(4, 1, 2, 9), refused(3, 1, 1, 9), refused(3, 1, 3, 9), refused(3, 1, 1048576, 9),
			granted(3, 2, 1, "3.14", api.X), granted(3, 2, 2, "3", api.X), refused(3, 2, 2, 9), granted(3, 3, 1, "3", api.X), refused(3, 3, 1, 9),
		} {
			nothing(t, o, d)
		}
		does(t, o, granted(3, 1, 2, "3.14", api.X), "", "granted 1 3.14X")
		does(t, o, refused(3, 2, 1, 9), "", "refused 2 3 9")
	})
}

func TestAnswersOfWhoIsNotActive(t *testing.T) {
	check.Both(func(c api.Config) {
		for _, end := range append(ends(c.Probe), append(locked(2, 1, 3), commit(2))) {
			o := made(t, c, 3, []move{begin(2)}, end, []move{begin(1), lock(1, "4", api.S)})
			for seq := 1; seq <= 3; seq++ {
				for _, shard := range []int{1, 3} {
					for _, text := range []string{"3", "1"} {
						nothing(t, o, granted(shard, 1, seq, text, api.X)) // no message, however late, gives a lock behind a decision
					}
					nothing(t, o, refused(shard, 1, seq, 9))
				}
			}
			check.Stop(t)
		}
	})
}

// Votes and acknowledgements.

func TestVotes(t *testing.T) {
	check.Both(func(c api.Config) {
		ahead := slices.Concat([]move{begin(1), begin(2)}, locked(2, 2, 4, 1, 3), []move{commit(2)})
		for _, order := range [][]int{{1, 3, 4}, {4, 3, 1}, {3, 1, 4}} {
			o := made(t, c, 2, ahead)
			nothing(t, o, voted(2, 2, 1)) // it isn't touched
			nothing(t, o, voted(2, 2, 0))
			nothing(t, o, voted(1, 1, 1)) // not Preparing
			nothing(t, o, voted(1, 1, 0))
			does(t, o, voted(order[0], 2, 1), "", "")
			nothing(t, o, voted(order[0], 2, 1))
			does(t, o, voted(order[1], 2, 1), "", "")
			nothing(t, o, voted(order[0], 2, 1))
			does(t, o, voted(order[2], 2, 1), to("decide 2 1", 1, 3, 4), "committed 2")
			nothing(t, o, voted(order[2], 2, 1))
			nothing(t, o, voted(order[2], 2, 0))
			is(t, o, 2, "2 Committed; request 3 of 3: 3X; touched 1 3 4; votes 1 3 4; got 4:2.1X 1:2.2X 3:2.3X")
			is(t, o, 1, "1 Active")
		}
		for _, against := range []int{1, 3, 4} {
			for _, ahead := range [][]move{ahead, append(slices.Clone(ahead), voted(4, 2, 1)), append(slices.Clone(ahead), yes(2, 4, 3)...)} {
				o := made(t, c, 2, ahead)
				does(t, o, voted(against, 2, 0), to("decide 2 0", 1, 3, 4), "aborted 2 2")
				nothing(t, o, voted(against, 2, 0))
				nothing(t, o, voted(1, 2, 1))
				begun(t, o, 2, 3)
			}
		}
	})
}

func TestAcks(t *testing.T) {
	check.Both(func(c api.Config) {
		ahead := append([]move{begin(1), begin(2)}, locked(2, 2, 4, 1)...)
		for _, end := range [][]move{{abort(2)}, {expired(4, 2)}, {commit(2), voted(4, 2, 1), voted(1, 2, 1)}, {commit(2), voted(1, 2, 0)}} {
			o := made(t, c, 2, ahead)
			nothing(t, o, acked(1, 2)) // it isn't decided
			more(t, o, end...)
			nothing(t, o, acked(3, 2)) // it isn't touched
			was := check.Txn(o.View().Txns[1])
			before, got, _ := strings.Cut(was, "; got")
			does(t, o, acked(4, 2), "", "")
			is(t, o, 2, before+"; acks 4; got"+got)
			nothing(t, o, acked(4, 2))
			does(t, o, acked(1, 2), "", "")
			is(t, o, 2, before+"; acks 1 4; got"+got)
			nothing(t, o, acked(1, 2))
			nothing(t, o, acked(1, 1))
		}
		o := made(t, c, 2, ahead, []move{commit(2)})
		nothing(t, o, acked(1, 2))
	})
}

// KExpired.

func TestExpired(t *testing.T) {
	check.Both(func(c api.Config) {
		for _, q := range []struct {
			ahead []move
			sent  string
		}{
			{nil, ""},
			{[]move{lock(2, "3", api.X)}, "3: decide 2 0"},
			{locked(2, 2, 3, 1), to("decide 2 0", 1, 3)},
			{append(locked(2, 2, 3, 1), lock(2, "4", api.X)), to("decide 2 0", 1, 3, 4)},
			{append(locked(2, 2, 3, 1), commit(2)), to("decide 2 0", 1, 3)},
			{append(locked(2, 2, 3, 1), commit(2), voted(1, 2, 1)), to("decide 2 0", 1, 3)},
		} {
			for shard := 1; shard <= 4; shard++ { // whoever tells it
				o := made(t, c, 2, []move{begin(1), begin(2)}, q.ahead)
				does(t, o, expired(shard, 2), q.sent, "aborted 2 5")
				nothing(t, o, expired(shard, 2))
				is(t, o, 1, "1 Active")
				begun(t, o, 2, 3)
			}
			check.Stop(t)
		}
		for _, end := range ends(c.Probe) {
			o := made(t, c, 3, []move{begin(2)}, end)
			nothing(t, o, expired(3, 1))
			nothing(t, o, expired(1, 1))
		}
	})
}

// KWound.

// inState are moves that bring a client's transaction, which touches shard 3 if any, to each state.
func inState(client, tx int) (active, preparing, over [][]move) {
	end := append(locked(client, tx, 3), commit(client))
	active = [][]move{nil, {lock(client, "3", api.X)}, locked(client, tx, 3)}
	preparing = [][]move{end}
	over = [][]move{{abort(client)}, {commit(client)}, {expired(3, tx)}, append(slices.Clone(end), voted(3, tx, 1)), append(slices.Clone(end), voted(3, tx, 0))}
	return active, preparing, over
}

func TestWounded(t *testing.T) {
	c := check.Roomy(false)
	elderActive, elderPreparing, elderOver := inState(1, 1)
	active, preparing, over := inState(2, 2)
	for i, elder := range slices.Concat(elderActive, elderPreparing, elderOver) {
		for k, younger := range slices.Concat(active, preparing, over) {
			o := made(t, c, 3, []move{begin(1), begin(2)}, elder, younger, []move{begin(3)})
			for _, d := range []move{wounded(3, 3, 2), wounded(3, 3, 1)} {
				if d.m.Next == 1 && i < 4 || d.m.Next == 2 && k < 4 {
					continue // that one is aborted by it; it comes below
				}
				nothing(t, o, d)
			}
			if i >= 4 || k >= 3 { // the elder one is decided, or the younger one isn't Active
				nothing(t, o, wounded(3, 2, 1))
				continue
			}
			sent := []string{"", "3: decide 2 0", "3: decide 2 0"}[k]
			does(t, o, wounded(1+i%4, 2, 1), sent, "aborted 2 3")
			nothing(t, o, wounded(3, 2, 1))
			does(t, o, wounded(3, 3, 1), "", "aborted 3 3")
			begun(t, o, 2, 4)
			check.Stop(t)
		}
	}
}

func TestWoundedByEachElderOne(t *testing.T) {
	for elder := 1; elder <= 8; elder++ {
		for younger := elder + 1; younger <= 8; younger++ {
			o := made(t, check.Roomy(false), 8)
			for client := 1; client <= 8; client++ {
				more(t, o, begin(client))
			}
			for tx := 1; tx < younger; tx++ {
				if tx != elder {
					more(t, o, abort(tx))
					nothing(t, o, wounded(2, younger, tx))
				}
			}
			does(t, o, wounded(2, younger, elder), "", "aborted "+check.Step(younger, 0)+" 3")
			check.Stop(t)
		}
	}
}

func TestWoundedWithProbes(t *testing.T) {
	active, _, _ := inState(2, 2)
	for _, younger := range active {
		o := made(t, check.Roomy(true), 2, []move{begin(1), begin(2)}, younger)
		for shard := 1; shard <= 4; shard++ {
			nothing(t, o, wounded(shard, 2, 1))
		}
	}
}

// KProbe.

// waiting are clients, up to that one, each with a transaction of its number that has a request open, at the shard of its number, from the fifth one on again from the first shard on.
func waiting(clients int) []move {
	var all []move
	for client := 1; client <= clients; client++ {
		all = append(all, begin(client), lock(client, check.Res(api.Res{Table: client, Row: client}), api.X))
	}
	return all
}

func TestProbeThatComesBack(t *testing.T) {
	for _, q := range []struct {
		next   api.Step
		steps  []api.Step
		victim int
	}{
		{step(1, 0), steps(1), 1},
		{step(1, 1), steps(1), 1},
		{step(1, 0), steps(1, 2), 2},
		{step(2, 1), steps(2, 1), 2},
		{step(3, 0), steps(3, 1, 2), 3},
		{step(2, 1), steps(2, 8, 5, 1), 8},
		{step(4, 1), steps(4, 3, 2, 1), 4},
		{step(1, 1), steps(1, 2, 3, 4, 5, 6, 7, 8), 8},
		{step(7, 0), steps(7, 5, 6, 2, 4, 1, 3), 7},
	} {
		for shard := 1; shard <= 4; shard++ { // whoever sends it
			o := made(t, check.Roomy(true), 8, waiting(8))
			victim := check.Step(q.victim, 0)
			does(t, o, probing(shard, q.next, q.steps...), check.Step((q.victim-1)%4+1, 0)+": decide "+victim+" 0", "aborted "+victim+" 4")
			nothing(t, o, probing(shard, q.next, q.steps...)) // it isn't live any more
			begun(t, o, q.victim, 9)
		}
		check.Stop(t)
	}
}

func TestProbeThatGoesOn(t *testing.T) {
	for _, q := range []struct {
		next  api.Step
		steps []api.Step
	}{
		{step(2, 0), steps(1)}, {step(2, 1), steps(1)}, {step(1, 0), steps(2)}, {step(8, 0), steps(3)}, {step(5, 1), steps(3, 1)},
		{step(6, 0), steps(1, 2, 3, 4, 5)}, {step(8, 1), steps(7, 6, 5, 4, 3, 2, 1)},
		{step(1, 0), steps(2, 1)}, {step(1, 1), steps(2, 1)}, {step(1, 0), steps(2, 3, 1)}, {step(5, 1), steps(1, 2, 3, 4, 5, 6, 7, 8)}, // a circle, but not of the first one
	} {
		for shard := 1; shard <= 4; shard++ {
			o := made(t, check.Roomy(true), 8, waiting(8))
			d := probing(shard, q.next, q.steps...)
			does(t, o, d, check.Step((q.next.Tx-1)%4+1, 0)+": "+check.Sent([]api.Msg{d.m}), "")
			before := o.View()
			sent, _ := o.Handle(d.m)
			if on := d.m; len(sent) == 1 {
				on.From, on.To = 0, (q.next.Tx-1)%4+1
				if sent[0] != on {
					t.Errorf("%+v, want %+v", sent[0], on)
				}
			}
			has(t, o, before)
		}
		check.Stop(t)
	}
}

func TestProbeThatIsNotLive(t *testing.T) {
	o := made(t, check.Roomy(true), 8, waiting(4), []move{begin(5)}, []move{begin(6)}, locked(6, 6, 2), []move{begin(7)}, locked(7, 7, 3), []move{commit(7), abort(4)})
	for _, q := range []move{
		probing(1, step(1, 0), step(1, 2)), probing(1, step(1, 2), step(1, 2)), probing(1, step(2, 0), step(1, 2)), probing(1, step(2, 0), step(1, 1048576)),
		probing(1, step(1, 0), step(1, 1), step(2, 2)), probing(1, step(1, 0), step(1, 2), step(2, 1)), probing(1, step(1, 1), step(1, 1), step(2, 1), step(3, 2)),
		probing(2, step(5, 1), steps(5)...), probing(2, step(1, 0), steps(5)...), probing(2, step(1, 1), steps(1, 5)...), // it never asked
		probing(2, step(6, 1), steps(6)...), probing(2, step(1, 0), steps(6)...), probing(2, step(1, 1), steps(1, 6, 2)...), // it was answered
		probing(2, step(7, 1), steps(7)...), probing(2, step(1, 0), steps(7)...), probing(2, step(1, 1), steps(1, 2, 7)...), // it is Preparing
		probing(2, step(4, 1), steps(4)...), probing(2, step(1, 0), steps(4)...), probing(2, step(1, 1), steps(1, 4)...), // it is decided
		probing(2, step(8, 1), steps(8)...), probing(2, step(1, 0), steps(8)...), probing(2, step(1, 1), steps(1, 8)...), // there is none
		probing(2, step(1, 0), steps(1048576)...), probing(2, step(1, 0), step(1, 1), step(1048576, 1048576)),
	} {
		nothing(t, o, q)
	}
}

func TestProbeWhoseNextDoesNotWait(t *testing.T) {
	o := made(t, check.Roomy(true), 8, waiting(4), []move{begin(5)}, []move{begin(6)}, locked(6, 6, 2), []move{begin(7)}, locked(7, 7, 3), []move{commit(7), abort(4)})
	for _, next := range []int{4, 5, 6, 7, 8, 9, 256, 1048576} {
		for _, seq := range []int{0, 1, 2} {
			nothing(t, o, probing(3, step(next, seq), steps(1)...))
			nothing(t, o, probing(3, step(next, seq), steps(1, 2)...))
		}
	}
	for _, seq := range []int{2, 3, 256, 257, 65537, 1048576} { // by another request than it waits by
		nothing(t, o, probing(3, step(2, seq), steps(1)...))
		nothing(t, o, probing(3, step(1, seq), steps(1)...)) // that comes back no more
		nothing(t, o, probing(3, step(1, seq), steps(1, 2)...))
	}
}

func TestProbeByALaterRequest(t *testing.T) {
	o := made(t, check.Roomy(true), 2, []move{begin(1)}, locked(1, 1, 2, 4), []move{lock(1, "3", api.S), begin(2)}, locked(2, 2, 1), []move{lock(2, "2", api.S)})
	for _, seq := range []int{1, 2, 4} {
		nothing(t, o, probing(3, step(2, 2), step(1, seq)))
		nothing(t, o, probing(3, step(2, 0), step(1, seq)))
		nothing(t, o, probing(2, step(1, seq), step(2, 2)))
	}
	does(t, o, probing(3, step(2, 2), step(1, 3)), "2: probe 1.3 > 2.2", "")
	does(t, o, probing(2, step(1, 3), step(2, 2)), "3: probe 2.2 > 1.3", "")
	does(t, o, probing(2, step(1, 0), step(1, 3), step(2, 2)), to("decide 2 0", 1, 2), "aborted 2 4")
}

func TestProbeWithoutProbes(t *testing.T) {
	o := made(t, check.Roomy(false), 8, waiting(8))
	for _, d := range []move{
		probing(1, step(1, 0), steps(1)...), probing(1, step(1, 1), steps(1, 2)...), probing(1, step(2, 0), steps(1)...), probing(1, step(2, 1), steps(1)...),
		probing(1, step(1, 1), steps(1, 2, 3, 4, 5, 6, 7, 8)...), probing(1, step(8, 0), steps(1, 2, 3, 4)...),
	} {
		nothing(t, o, d)
	}
}

func TestProbeOfADeadClientsOne(t *testing.T) {
	o := made(t, check.Roomy(true), 3, waiting(3), []move{crash(2), crash(3)})
	does(t, o, probing(1, step(2, 1), steps(1)...), "2: probe 1.1 > 2.1", "")
	does(t, o, probing(1, step(2, 1), steps(2, 3)...), "3: decide 3 0", "aborted 3 4")
	does(t, o, probing(1, step(1, 0), steps(1, 2)...), "2: decide 2 0", "aborted 2 4")
}

// Nil coordinators.

func TestNil(t *testing.T) {
	var o *coord.Coord
	for _, client := range []int{math.MinInt, 0, 1, 8, 9} {
		for _, d := range moves(client) {
			if tx, sent, err := told(o, d); tx != 0 || len(sent) != 0 || !check.Plain(err, api.ErrArg) {
				t.Errorf("%s = %d, %v, %v", d.text(), tx, sent, err)
			}
		}
	}
	for _, m := range append(check.Messages(), check.WrongMessages()...) {
		if sent, err := o.Handle(m); len(sent) != 0 || !check.Plain(err, api.ErrArg) {
			t.Errorf("Handle(%+v) = %v, %v", m, sent, err)
		}
	}
	if sent := o.Tick(); len(sent) != 0 {
		t.Errorf("Tick = %v", sent)
	}
	if v := o.View(); !check.SameCoord(v, coord.View{}) {
		t.Errorf("View = %s", check.Coord(v))
	}
}
