package shard_test

import (
	"math"
	"slices"
	"testing"

	"catchbolt/api"
	"catchbolt/check"
	"catchbolt/msg"
	"catchbolt/part"
	"catchbolt/shard"
)

// The document's examples.

func TestExample(t *testing.T) {
	s := made(t, check.Roomy(false))
	sends(t, s, lock(5, 1, "3", api.X), "granted 3:5.1X")
	sends(t, s, lock(2, 1, "3", api.X), "wound 5 by 2")
	sends(t, s, decide(5, 0), "ack 5, granted 3:2.1X")
	tells(t, s, "states 2=Active 5=Aborted; leases 2; book 2; held 3:2X; log 3:5.1X 3:2.1X")
}

func TestExampleWithProbes(t *testing.T) {
	s := made(t, check.Roomy(true))
	sends(t, s, lock(5, 1, "3", api.X), "granted 3:5.1X")
	sends(t, s, lock(2, 1, "3", api.X), "probe 2.1 > 5")
	sends(t, s, decide(5, 0), "ack 5, granted 3:2.1X")
}

// P15.1

// checks checks what Check answers.
func checks(t *testing.T, c api.Config, may bool) {
	t.Helper()
	if err := shard.Check(c); may && err != nil || !may && !check.Plain(err, api.ErrConfig) {
		t.Errorf("Check(%+v) = %v", c, err)
	}
}

// isMade checks what New answers; OK is no error.
func isMade(t *testing.T, id int, c api.Config, want api.Errno) {
	t.Helper()
	s, err := shard.New(id, c)
	if (s != nil) != (want == api.OK) || want == api.OK && err != nil || want != api.OK && !check.Plain(err, want) {
		t.Errorf("New(%d, %+v) = %v, %v, want %v", id, c, s, err, want)
	}
}

func TestCheckOfEachNumberThatMayBe(t *testing.T) {
	check.Both(func(c api.Config) {
		for _, f := range check.Fields() {
			for n := 1; n <= f.Most; n++ {
				one := c
				*f.Of(&one) = n
				checks(t, one, true)
			}
		}
	})
}

func TestCheckOfEachNumberThatMayNotBe(t *testing.T) {
	check.Both(func(c api.Config) {
		for _, f := range check.Fields() {
			for _, n := range f.Wrong() {
				one := c
				*f.Of(&one) = n
				checks(t, one, false)
				isMade(t, here, one, api.ErrConfig)
				isMade(t, 0, one, api.ErrConfig)
				isMade(t, 65, one, api.ErrConfig)
			}
		}
	})
}

func TestCheckAndNewOfSeveralNumbersAtOnce(t *testing.T) {
	const ways = 4
	all := check.Fields()
	for n := range ways * ways * ways * ways * ways * ways {
		c, may := api.Config{Probe: n%3 == 0}, true
		rest := n
		for _, f := range all {
			*f.Of(&c) = []int{0, 1, f.Most, f.Most + 1}[rest%ways]
			may = may && rest%ways%3 != 0
			rest /= ways
		}
		checks(t, c, may)
		for _, id := range []int{-1, 0, 1, 64, 65} {
			want := api.OK
			if id < 1 || id > 64 {
				want = api.ErrRange
			}
			if !may {
				want = api.ErrConfig
			}
			isMade(t, id, c, want)
		}
	}
	checks(t, api.Config{}, false)
	checks(t, api.Config{Shards: math.MinInt, Lease: math.MaxInt, Resend: -1, Slots: math.MinInt, Queue: math.MaxInt, Flight: -1}, false)
}

func TestNewOfEachNumber(t *testing.T) {
	check.Both(func(c api.Config) {
		c.Shards = 1 // a shard may have a number above how many there are
		for id := 1; id <= 64; id++ {
			s := numbered(t, id, c)
			tells(t, s, "")
			for tx := -1; tx < 10; tx++ {
				isState(t, s, tx, part.Fresh)
			}
		}
		for _, id := range check.WrongLimits() {
			isMade(t, id, c, api.ErrRange)
		}
	})
}

func TestEachShardSendsByItsNumber(t *testing.T) {
	for id := 1; id <= 64; id++ {
		c := check.Roomy(false)
		c.Lease, c.Resend = 2, 1
		s := numbered(t, id, c)
		var sent []api.Msg
		for _, m := range []api.Msg{
			lock(5, 1, "3", api.X), lock(5, 2, "3.1", api.IS), lock(2, 1, "3", api.X), prepare(5), decide(7, 1),
		} {
			m.To = id
			l, err := s.Handle(m)
			if err != nil {
				t.Errorf("Handle(%+v) = %v", m, err)
			}
			sent = append(sent, l...)
		}
		sent = slices.Concat(sent, s.Tick(), s.Tick(), s.Tick())
		want := "granted 3:5.1X, refused 5.2 12, wound 5 by 2, vote 5 1, ack 7, wound 5 by 2, wound 5 by 2, expired 2, expired 2"
		if got := check.Sent(sent); got != want {
			t.Errorf("shard %d sends %s, want %s", id, got, want)
		}
		for _, m := range sent {
			if m.From != id || m.To != 0 {
				t.Errorf("shard %d sends %+v", id, m)
			}
		}
	}
}

func TestEachLeaseEndsWhenItIsDue(t *testing.T) {
	for span := 1; span <= 1000; span += 1 + span/10 {
		c := check.Roomy(span%2 == 0)
		c.Lease = span
		s := made(t, c)
		quiet(t, s, 3)
		sends(t, s, lock(5, 1, "3", api.X), "granted 3:5.1X")
		quiet(t, s, span-1)
		ticks(t, s, "expired 5")
		check.Stop(t)
	}
	s := made(t, check.Roomy(false))
	sends(t, s, lock(5, 1, "3", api.X), "granted 3:5.1X")
	quiet(t, s, 999)
	ticks(t, s, "expired 5")
}

func TestSlotsAndQueueAreTheConfigs(t *testing.T) {
	for _, n := range []int{1, 2, 5, 63, 64} {
		c := check.Roomy(false)
		c.Slots, c.Queue = 64*n, n
		s := made(t, c)
		sends(t, s, lock(1000, 1, "3", api.X), "granted 3:1000.1X")
		for tx := 2000; tx < 2000+n; tx++ {
			sends(t, s, lock(tx, 1, "3", api.X), "")
		}
		sends(t, s, lock(3000, 1, "3", api.X), "refused 3000.1 7")
		for tx := 4000; tx < 4000+63*n-1; tx++ {
			sends(t, s, lock(tx, 1, "4", api.IS), "granted 4:"+check.Step(tx, 1)+"IS")
		}
		sends(t, s, lock(9000, 1, "5", api.IS), "refused 9000.1 6")
		check.Stop(t)
	}
}

// P15.2: which messages come.

func TestHandleOfWhatMayNotBe(t *testing.T) {
	check.Both(func(c api.Config) {
		s := made(t, c)
		sends(t, s, lock(7, 1, "3", api.X), "granted 3:7.1X")
		for _, m := range check.WrongMessages() {
			mayNot(t, s, m, api.ErrForm)
			for _, id := range []int{here, 2, 0} { // to this shard, to another one, and to the coordinator
				m.To = id
				if msg.Ok(m) != nil {
					mayNot(t, s, m, api.ErrForm)
				}
			}
		}
		for _, m := range []api.Msg{lock(7, 2, "4", api.S), prepare(7), decide(7, 1), renew(7)} {
			for _, tx := range check.WrongNumbers() {
				m.Tx = tx
				mayNot(t, s, m, api.ErrForm)
			}
		}
		for _, seq := range check.WrongNumbers() {
			mayNot(t, s, lock(7, seq, "4", api.S), api.ErrForm)
		}
		for _, m := range check.WrongModes() {
			mayNot(t, s, lock(7, 2, "4", m), api.ErrForm)
		}
		for _, r := range check.WrongResources() {
			mayNot(t, s, api.Msg{Kind: api.KLock, To: here, Tx: 7, Seq: 2, At: r, Mode: api.S}, api.ErrForm)
		}
		for _, code := range []int{-1, 2, 256, 257, math.MaxInt} {
			mayNot(t, s, decide(7, code), api.ErrForm)
		}
	})
}

func TestHandleOfWhatIsToAnother(t *testing.T) {
	check.Both(func(c api.Config) {
		s := made(t, c)
		sends(t, s, lock(7, 1, "3", api.X), "granted 3:7.1X")
		for id := 1; id <= 64; id++ {
			for _, m := range []api.Msg{lock(7, 2, "4", api.S), prepare(7), decide(7, 0), decide(7, 1), renew(7), probing(step(7, 0), step(1, 1))} {
				m.To = id
				if id != here {
					mayNot(t, s, m, api.ErrArg)
				}
			}
		}
	})
}

func TestHandleOfKindsThatAreForNoShard(t *testing.T) {
	check.Both(func(c api.Config) {
		for _, id := range []int{1, here, 64} {
			s := numbered(t, id, c)
			for _, m := range append(check.Others(), check.Probe(1), check.Probe(7)) {
				if m.From == 0 {
					continue
				}
				for _, from := range []int{id, 2} { // to the coordinator each may be, from this shard, too
					m.From = from
					mayNot(t, s, m, api.ErrArg)
					down := check.Down(m)
					down.To = id
					if m.Kind != api.KProbe {
						mayNot(t, s, down, api.ErrForm)
					}
				}
			}
		}
	})
}

func TestWhatIsWrongAndToAnotherIsWrong(t *testing.T) {
	s := made(t, check.Roomy(false))
	for _, m := range []api.Msg{
		{Kind: api.KPrepare, To: 2}, {Kind: api.KPrepare, To: 65, Tx: 7}, {Kind: api.KPrepare, To: -3, Tx: 7}, {Kind: api.KPrepare, Tx: 7},
		{Kind: api.KVote, From: 2, Tx: 7, Code: 2}, {Kind: api.KVote, From: 2, To: 2, Tx: 7}, {Kind: 12, To: 2, Tx: 7},
	} {
		mayNot(t, s, m, api.ErrForm)
	}
}

func TestWhatMayNotComeTellsNothingOfWhoIsHurt(t *testing.T) {
	s := made(t, check.Roomy(false))
	sends(t, s, lock(5, 1, "3", api.X), "granted 3:5.1X")
	sends(t, s, lock(2, 1, "3", api.X), "wound 5 by 2")
	mayNot(t, s, prepare(0), api.ErrForm)
	other := prepare(5)
	other.To = 2
	mayNot(t, s, other, api.ErrArg)
	stays(t, s, renew(5), "") // it was hurt ahead, and is told no more
}

// P15.2: what comes of each kind, in each state.

// in is a shard at the time 4, of leases of 4 ticks, where 5 is in that state; it asked for X of 3, if it asked.
func in(t *testing.T, state int, probe bool) *shard.Shard {
	t.Helper()
	c := check.Roomy(probe)
	c.Lease = 4
	s := made(t, c)
	first := lock(5, 1, "3", api.X)
	if state == part.Expired {
		sends(t, s, first, "granted 3:5.1X")
		quiet(t, s, 3)
		ticks(t, s, "expired 5")
		return s
	}
	quiet(t, s, 4)
	if state != part.Fresh {
		sends(t, s, first, "granted 3:5.1X")
	}
	switch state {
	case part.Committed:
		sends(t, s, decide(5, 1), "ack 5")
	case part.Aborted:
		sends(t, s, decide(5, 0), "ack 5")
	case part.Prepared:
		sends(t, s, prepare(5), "vote 5 1")
	}
	return s
}

// ours is what a shard has that is in a state.
func ours(state int) string {
	all := []string{
		"time 4",
		"time 4; states 5=Active; leases 5; book 5; held 3:5X; log 3:5.1X",
		"time 4; states 5=Prepared; book 5; held 3:5X; log 3:5.1X",
		"time 4; states 5=Expired; log 3:5.1X",
		"time 4; states 5=Committed; log 3:5.1X",
		"time 4; states 5=Aborted; log 3:5.1X",
	}
	return all[state]
}

func TestInHasEachState(t *testing.T) {
	check.Both(func(c api.Config) {
		for state := range states {
			s := in(t, state, c.Probe)
			tells(t, s, ours(state))
			isState(t, s, 5, state)
			for _, tx := range []int{-5, 0, 1, 4, 6, 5 + 1<<32, 1048576, 1048577} {
				isState(t, s, tx, part.Fresh)
			}
		}
	})
}

func TestEachKindInEachState(t *testing.T) {
	for _, q := range []struct {
		m    api.Msg
		sent [6]string // of each state
		then [6]int
		has  [6]string // nothing, if it is as that state has it in other tests
	}{
		{lock(5, 2, "4", api.S), [6]string{"granted 4:5.2S", "granted 4:5.2S", "", "expired 5", "", ""}, [6]int{1, 1, 2, 3, 4, 5}, [6]string{
			"time 4; states 5=Active; leases 5; book 5; held 4:5S; log 4:5.2S",
			"time 4; states 5=Active; leases 5; book 5; held 3:5X 4:5S; log 3:5.1X 4:5.2S",
		}},
		{lock(5, 2, "4.1", api.S), [6]string{"refused 5.2 9", "refused 5.2 9", "", "expired 5", "", ""}, [6]int{1, 1, 2, 3, 4, 5}, [6]string{
			"time 4; states 5=Active; leases 5; book 5",
		}},
		{lock(5, 1, "3", api.X), [6]string{"granted 3:5.1X", "granted 3:5.1X", "", "expired 5", "", ""}, [6]int{1, 1, 2, 3, 4, 5}, [6]string{}},
		{prepare(5), [6]string{"vote 5 0", "vote 5 1", "vote 5 1", "vote 5 0", "", ""}, [6]int{0, 2, 2, 3, 4, 5}, [6]string{}},
		{decide(5, 1), [6]string{"ack 5", "ack 5", "ack 5", "ack 5", "ack 5", "ack 5"}, [6]int{4, 4, 4, 4, 4, 5}, [6]string{
			"time 4; states 5=Committed",
		}},
		{decide(5, 0), [6]string{"ack 5", "ack 5", "ack 5", "ack 5", "ack 5", "ack 5"}, [6]int{5, 5, 5, 5, 4, 5}, [6]string{
			"time 4; states 5=Aborted",
		}},
		{renew(5), [6]string{"", "", "", "expired 5", "", ""}, [6]int{0, 1, 2, 3, 4, 5}, [6]string{}},
	} {
		check.Both(func(c api.Config) {
			for state, sent := range q.sent {
				s := in(t, state, c.Probe)
				sends(t, s, q.m, sent)
				want := q.has[state]
				if want == "" {
					want = ours(q.then[state])
				}
				tells(t, s, want)
				isState(t, s, 5, q.then[state])
			}
		})
	}
}

// waiting is a shard where 5 has X of 4, and waits for X of 3 by its request 2, which 9 has; at the time 2, of leases of 4 ticks, renewed then.
func waiting(t *testing.T, probe bool) *shard.Shard {
	t.Helper()
	c := check.Roomy(probe)
	c.Lease = 4
	s := made(t, c)
	quiet(t, s, 2)
	sends(t, s, lock(9, 1, "3", api.X), "granted 3:9.1X")
	sends(t, s, lock(5, 1, "4", api.X), "granted 4:5.1X")
	sends(t, s, lock(5, 2, "3", api.X), either(c, "wound 9 by 5", "probe 5.2 > 9"))
	tells(t, s, "time 2; states 5=Active 9=Active; leases 5 9; book 5 9; edges 5.2>9; held 3:9X 4:5X; waits 3:5.2X; log 3:9.1X 4:5.1X")
	return s
}

func TestEachKindOfOneThatWaits(t *testing.T) {
	check.Both(func(c api.Config) {
		stays(t, waiting(t, c.Probe), prepare(5), "vote 5 0")
		stays(t, waiting(t, c.Probe), renew(5), "")
		stays(t, waiting(t, c.Probe), lock(5, 2, "3", api.X), "") // it is open
		stays(t, waiting(t, c.Probe), lock(5, 1, "4", api.X), "") // it is an elder one
		stays(t, waiting(t, c.Probe), lock(5, 3, "5", api.X), "refused 5.3 8")
		for code := range 2 {
			s := waiting(t, c.Probe)
			sends(t, s, decide(5, code), "ack 5")
			tells(t, s, "time 2; states 5="+states[5-code]+" 9=Active; leases 9; book 9; held 3:9X; log 3:9.1X 4:5.1X")
			s = waiting(t, c.Probe)
			sends(t, s, decide(9, code), "ack 9, granted 3:5.2X")
			tells(t, s, "time 2; states 5=Active 9="+states[5-code]+"; leases 5; book 5; held 3:5X 4:5X; log 3:9.1X 4:5.1X 3:5.2X")
		}
	})
}

func TestOneThatWaitsIsPreparedOnceItWaitsNoMore(t *testing.T) {
	check.Both(func(c api.Config) {
		s := waiting(t, c.Probe)
		stays(t, s, prepare(5), "vote 5 0")
		stays(t, s, prepare(5), "vote 5 0")
		sends(t, s, prepare(9), "vote 9 1") // for whom one waits doesn't wait
		sends(t, s, decide(9, 1), "ack 9, granted 3:5.2X")
		sends(t, s, prepare(5), "vote 5 1")
		tells(t, s, "time 2; states 5=Prepared 9=Committed; book 5; held 3:5X 4:5X; log 3:9.1X 4:5.1X 3:5.2X")
	})
}

func TestAFreshOneIsVotedAgainstAndStaysFresh(t *testing.T) {
	s := made(t, check.Roomy(false))
	stays(t, s, prepare(5), "vote 5 0")
	stays(t, s, renew(5), "")
	stays(t, s, prepare(5), "vote 5 0")
	sends(t, s, lock(5, 1, "3", api.X), "granted 3:5.1X")
	sends(t, s, prepare(5), "vote 5 1")
}

func TestADecisionStaysAsItCameFirst(t *testing.T) {
	for first := range 2 {
		s := made(t, check.Roomy(false))
		sends(t, s, lock(5, 1, "3", api.X), "granted 3:5.1X")
		sends(t, s, decide(5, first), "ack 5")
		sends(t, s, lock(7, 1, "3", api.X), "granted 3:7.1X")
		for _, m := range []api.Msg{lock(5, 1, "3", api.X), lock(5, 2, "3", api.X), prepare(5), renew(5)} {
			stays(t, s, m, "")
		}
		stays(t, s, decide(5, 0), "ack 5")
		stays(t, s, decide(5, 1), "ack 5")
		isState(t, s, 5, part.Aborted-first)
	}
}

// P15.2: leases.

func TestALeaseIsRenewedByEachThatSaysSo(t *testing.T) {
	check.Both(func(c api.Config) {
		for _, q := range []struct {
			m          api.Msg
			sent, ends string
		}{
			{renew(5), "", "expired 5"},
			{lock(5, 3, "5", api.X), "refused 5.3 8", "expired 5"},
			{lock(5, 2, "3", api.X), "", "expired 5"}, // open
			{lock(5, 1, "4", api.X), "", "expired 5"}, // elder
		} {
			s := waiting(t, c.Probe)
			sends(t, s, renew(9), "")
			quiet(t, s, 3)
			sends(t, s, renew(9), "")
			sends(t, s, q.m, q.sent)
			quiet(t, s, 3)
			sends(t, s, renew(9), "")
			ticks(t, s, q.ends)
		}
		for _, q := range []struct {
			m    api.Msg
			sent string
		}{
			{lock(5, 1, "3", api.X), "granted 3:5.1X"}, // answered
			{lock(5, 2, "4", api.S), "granted 4:5.2S"},
			{lock(5, 2, "4.1", api.IS), "refused 5.2 12"},
			{renew(5), ""},
		} {
			s := in(t, part.Active, c.Probe)
			quiet(t, s, 3)
			sends(t, s, q.m, q.sent)
			quiet(t, s, 3)
			sends(t, s, q.m, q.sent)
			quiet(t, s, 3)
			ticks(t, s, "expired 5")
		}
	})
}

func TestALeaseIsNotRenewedByOthers(t *testing.T) {
	check.Both(func(c api.Config) {
		s := waiting(t, c.Probe)
		quiet(t, s, 3)
		come(t, s, prepare(5), renew(7), lock(7, 1, "7", api.S), probing(step(5, 0), step(20, 1)), prepare(8))
		sends(t, s, renew(9), "")
		ticks(t, s, "expired 5")
		quiet(t, s, 2)
		ticks(t, s, "expired 7, expired 9")
	})
}

func TestWhatIsPreparedHasNoLease(t *testing.T) {
	check.Both(func(c api.Config) {
		s := in(t, part.Prepared, c.Probe)
		for range 3 {
			stays(t, s, renew(5), "")
			stays(t, s, prepare(5), "vote 5 1")
			stays(t, s, lock(5, 1, "3", api.X), "")
			quiet(t, s, 20)
		}
		isState(t, s, 5, part.Prepared)
	})
}

func TestAWaitingOneThatIsGrantedIsNotRenewedByThat(t *testing.T) {
	check.Both(func(c api.Config) {
		s := waiting(t, c.Probe)
		quiet(t, s, 3)
		sends(t, s, decide(9, 1), "ack 9, granted 3:5.2X")
		ticks(t, s, "expired 5")
	})
}

// P15.2: requests.

func TestALockIsRefusedForEachReason(t *testing.T) {
	check.Both(func(c api.Config) {
		c.Slots, c.Queue = 7, 2
		s := made(t, c)
		sends(t, s, lock(1, 1, "3", api.IX), "granted 3:1.1IX")
		sends(t, s, lock(1, 2, "3.1", api.X), "granted 3.1:1.2X")
		sends(t, s, lock(2, 1, "3", api.IS), "granted 3:2.1IS")
		sends(t, s, lock(2, 2, "3.1", api.IS), "refused 2.2 12")
		sends(t, s, lock(2, 3, "3.1", api.IX), "refused 2.3 12")
		sends(t, s, lock(2, 4, "3.1", api.X), "refused 2.4 9")
		sends(t, s, lock(7, 1, "3.1", api.S), "refused 7.1 9")
		sends(t, s, lock(7, 2, "3", api.IS), "granted 3:7.2IS")
		sends(t, s, lock(2, 5, "3.1", api.S), either(c, "", "probe 2.5 > 1"))
		sends(t, s, lock(7, 5, "3.1", api.S), either(c, "", "probe 7.5 > 1, probe 7.5 > 2.5"))
		sends(t, s, lock(7, 6, "9", api.S), "refused 7.6 8")
		sends(t, s, lock(7, 7, "9.1", api.S), "refused 7.7 8")
		sends(t, s, lock(7, 8, "9.1", api.IX), "refused 7.8 12")
		sends(t, s, lock(8, 1, "3", api.IS), "granted 3:8.1IS")
		sends(t, s, lock(9, 1, "3", api.IS), "refused 9.1 6")
		sends(t, s, lock(8, 2, "3.1", api.S), "refused 8.2 6")
		sends(t, s, decide(8, 0), "ack 8")
		sends(t, s, lock(10, 1, "3", api.IS), "granted 3:10.1IS")
		sends(t, s, decide(1, 1), "ack 1, granted 3.1:2.5S, granted 3.1:7.5S")
		tells(t, s, "states 1=Committed 2=Active 7=Active 8=Aborted 9=Active 10=Active; leases 2 7 9 10; book 2 7 9 10; held 3:2IS 3:7IS 3:10IS 3.1:2S 3.1:7S; log 3:1.1IX 3.1:1.2X 3:2.1IS 3:7.2IS 3:8.1IS 3:10.1IS 3.1:2.5S 3.1:7.5S")
	})
}

func TestALineThatIsFull(t *testing.T) {
	check.Both(func(c api.Config) {
		c.Queue = 1
		s := made(t, c)
		sends(t, s, lock(1, 1, "3", api.X), "granted 3:1.1X")
		sends(t, s, lock(2, 1, "3", api.S), either(c, "", "probe 2.1 > 1"))
		sends(t, s, lock(3, 1, "3", api.S), "refused 3.1 7")
		tells(t, s, "states 1=Active 2=Active 3=Active; leases 1 2 3; book 1 2 3; edges 2.1>1; held 3:1X; waits 3:2.1S; log 3:1.1X")
	})
}

func TestALockIsAnsweredWithTheModeThatOneHasThen(t *testing.T) {
	check.Both(func(c api.Config) {
		s := made(t, c)
		sends(t, s, lock(5, 1, "3", api.IX), "granted 3:5.1IX")
		sends(t, s, lock(5, 2, "3", api.IS), "granted 3:5.2IX") // it has more already
		sends(t, s, lock(5, 3, "3", api.S), "granted 3:5.3X")   // the least above both
		sends(t, s, lock(5, 4, "3.1", api.S), "granted 3.1:5.4S")
		sends(t, s, lock(5, 5, "3", api.S), "granted 3:5.5X")
		sends(t, s, lock(6, 1, "4", api.IX), "granted 4:6.1IX")
		sends(t, s, lock(8, 1, "4", api.IS), "granted 4:8.1IS")
		sends(t, s, lock(6, 2, "4", api.S), either(c, "wound 8 by 6", "probe 6.2 > 8"))
		sends(t, s, decide(8, 1), "ack 8, granted 4:6.2X")
		tells(t, s, "states 5=Active 6=Active 8=Committed; leases 5 6; book 5 6; held 3:5X 3.1:5S 4:6X; log 3:5.1IX 3:5.2IX 3:5.3X 3.1:5.4S 3:5.5X 4:6.1IX 4:8.1IS 4:6.2X")
	})
}

func TestALockThatComesAgainIsAnsweredAgain(t *testing.T) {
	check.Both(func(c api.Config) {
		s := made(t, c)
		sends(t, s, lock(5, 4, "3", api.S), "granted 3:5.4S")
		stays(t, s, lock(5, 4, "3", api.S), "granted 3:5.4S")
		stays(t, s, lock(5, 4, "3", api.S), "granted 3:5.4S")
		stays(t, s, lock(5, 4, "7", api.X), "granted 3:5.4S") // its number alone tells which one it is
		stays(t, s, lock(5, 3, "7", api.X), "")
		sends(t, s, lock(5, 7, "4.1", api.S), "refused 5.7 9")
		stays(t, s, lock(5, 4, "3", api.S), "")
		stays(t, s, lock(5, 7, "4.1", api.S), "refused 5.7 9")
		sends(t, s, lock(5, 8, "4", api.IS), "granted 4:5.8IS")
		stays(t, s, lock(5, 7, "4.1", api.S), "") // it would be granted now, but is an elder one
		sends(t, s, lock(5, 1048576, "4.1", api.S), "granted 4.1:5.1048576S")
		stays(t, s, lock(5, 1048576, "4.1", api.S), "granted 4.1:5.1048576S")
		tells(t, s, "states 5=Active; leases 5; book 5; held 3:5S 4:5IS 4.1:5S; log 3:5.4S 4:5.8IS 4.1:5.1048576S")
	})
}

func TestARefusalStaysWhenItsReasonIsGone(t *testing.T) {
	check.Both(func(c api.Config) {
		c.Slots = 1
		s := made(t, c)
		sends(t, s, lock(5, 1, "3", api.S), "granted 3:5.1S")
		sends(t, s, lock(6, 1, "3", api.S), "refused 6.1 6")
		sends(t, s, decide(5, 1), "ack 5")
		stays(t, s, lock(6, 1, "3", api.S), "refused 6.1 6")
		sends(t, s, lock(6, 2, "3", api.S), "granted 3:6.2S")
	})
}

func TestALockThatWaitsIsAskedOnce(t *testing.T) {
	check.Both(func(c api.Config) {
		s := waiting(t, c.Probe)
		for range 3 {
			stays(t, s, lock(5, 2, "3", api.X), "")
			stays(t, s, lock(5, 2, "7", api.S), "")
		}
		sends(t, s, decide(9, 0), "ack 9, granted 3:5.2X")
		stays(t, s, lock(5, 2, "3", api.X), "granted 3:5.2X")
	})
}

func TestOneThatWaitsIsGrantedBehindALaterRequest(t *testing.T) {
	check.Both(func(c api.Config) {
		s := waiting(t, c.Probe)
		stays(t, s, lock(5, 6, "3", api.X), "refused 5.6 8")
		stays(t, s, lock(5, 2, "3", api.X), "") // elder than that, though it waits
		stays(t, s, lock(5, 6, "3", api.X), "refused 5.6 8")
		sends(t, s, decide(9, 0), "ack 9, granted 3:5.2X")
		stays(t, s, lock(5, 6, "3", api.X), "refused 5.6 8") // that one's answer stays
		stays(t, s, lock(5, 2, "3", api.X), "")
		tells(t, s, "time 2; states 5=Active 9=Aborted; leases 5; book 5; held 3:5X 4:5X; log 3:9.1X 4:5.1X 3:5.2X")
		sends(t, s, lock(5, 7, "7", api.S), "granted 7:5.7S")
	})
}

func TestRequestsOfEachTransactionAreItsOwn(t *testing.T) {
	s := made(t, check.Roomy(false))
	for i, tx := range mixed {
		sends(t, s, lock(tx, 20-i, "3", api.IS), "granted 3:"+check.Step(tx, 20-i)+"IS")
	}
	for i, tx := range mixed {
		stays(t, s, lock(tx, 20-i, "3", api.IS), "granted 3:"+check.Step(tx, 20-i)+"IS")
		stays(t, s, lock(tx, 19-i, "3", api.IS), "")
	}
}

func TestAnyTableMayBeLockedHere(t *testing.T) {
	check.Both(func(c api.Config) {
		s := made(t, c) // whichever tables are its by their numbers
		for table := 1; table <= 250; table++ {
			r := api.Res{Table: table}
			sends(t, s, lock(7, 2*table, check.Res(r), api.X), "granted "+check.Granted([]api.Grant{{Tx: 7, Seq: 2 * table, At: r, Mode: api.X}}))
			r.Row = 251 - table
			sends(t, s, lock(7, 2*table+1, check.Res(r), api.S), "granted "+check.Granted([]api.Grant{{Tx: 7, Seq: 2*table + 1, At: r, Mode: api.S}}))
		}
	})
}

// P15.2: what is sent when one is let go.

// many is a shard where 5 has much, for which others wait; its time is 2, its leases are of 4 ticks.
func many(t *testing.T, probe bool) *shard.Shard {
	t.Helper()
	c := check.Roomy(probe)
	c.Lease = 4
	s := made(t, c)
	quiet(t, s, 2)
	come(t, s,
		lock(5, 1, "20", api.X), lock(5, 2, "1", api.X), lock(5, 3, "3", api.IX), lock(5, 4, "3.14", api.X), lock(5, 5, "3.2", api.X),
		lock(8, 1, "3", api.IX), lock(4, 1, "3", api.IX), lock(12, 1, "1", api.IS), lock(11, 1, "3", api.IX),
		lock(7, 1, "20", api.S), lock(2, 1, "20", api.S), lock(9, 1, "20", api.X), lock(8, 2, "3.14", api.S), lock(4, 2, "3.2", api.X), lock(11, 2, "3.14", api.S), lock(6, 1, "3", api.S),
	)
	tells(t, s, "time 2; states 2=Active 4=Active 5=Active 6=Active 7=Active 8=Active 9=Active 11=Active 12=Active; leases 2 4 5 6 7 8 9 11 12; book 2 4 5 6 7 8 9 11 12; "+
		"edges 2.1>5 2.1>7.1 4.2>5 6.1>4 6.1>5 6.1>8 6.1>11 7.1>5 8.2>5 9.1>2.1 9.1>5 9.1>7.1 11.2>5 11.2>8.2 12.1>5; "+
		"held 1:5X 3:5IX 3:8IX 3:4IX 3:11IX 3.2:5X 3.14:5X 20:5X; waits 1:12.1IS 3:6.1S 3.2:4.2X 3.14:8.2S 3.14:11.2S 20:7.1S 20:2.1S 20:9.1X; "+
		"log 20:5.1X 1:5.2X 3:5.3IX 3.14:5.4X 3.2:5.5X 3:8.1IX 3:4.1IX 3:11.1IX")
	return s
}

const grantedByMany = "granted 1:12.1IS, granted 3.2:4.2X, granted 3.14:8.2S, granted 3.14:11.2S, granted 20:7.1S, granted 20:2.1S"

func TestLettingGoGrantsInOrder(t *testing.T) {
	check.Both(func(c api.Config) {
		for code := range 2 {
			s := many(t, c.Probe)
			sends(t, s, decide(5, code), "ack 5, "+grantedByMany)
			tells(t, s, "time 2; states 2=Active 4=Active 5="+states[5-code]+" 6=Active 7=Active 8=Active 9=Active 11=Active 12=Active; leases 2 4 6 7 8 9 11 12; book 2 4 6 7 8 9 11 12; "+
				"edges 6.1>4 6.1>8 6.1>11 9.1>2 9.1>7; held 1:12IS 3:8IX 3:4IX 3:11IX 3.2:4X 3.14:8S 3.14:11S 20:7S 20:2S; waits 3:6.1S 20:9.1X; "+
				"log 20:5.1X 1:5.2X 3:5.3IX 3.14:5.4X 3.2:5.5X 3:8.1IX 3:4.1IX 3:11.1IX 1:12.1IS 3.2:4.2X 3.14:8.2S 3.14:11.2S 20:7.1S 20:2.1S")
			stays(t, s, lock(2, 1, "20", api.S), "granted 20:2.1S")
			stays(t, s, lock(11, 2, "3.14", api.S), "granted 3.14:11.2S")
			stays(t, s, decide(5, code), "ack 5")
		}
	})
}

func TestLettingGoAPreparedOneGrantsLikewise(t *testing.T) {
	check.Both(func(c api.Config) {
		s := many(t, c.Probe)
		sends(t, s, prepare(5), "vote 5 1")
		sends(t, s, decide(5, 1), "ack 5, "+grantedByMany)
	})
}

func TestALeaseThatEndsGrantsLikewise(t *testing.T) {
	check.Both(func(c api.Config) {
		s := many(t, c.Probe)
		quiet(t, s, 3)
		for _, tx := range []int{2, 4, 6, 7, 8, 9, 11, 12} {
			stays(t, s, renew(tx), "")
		}
		ticks(t, s, "expired 5, "+grantedByMany)
		isState(t, s, 5, part.Expired)
		sends(t, s, decide(5, 1), "ack 5")
		isState(t, s, 5, part.Committed)
	})
}
