package shard_test

import (
	"slices"
	"testing"

	"catchbolt/api"
	"catchbolt/check"
	"catchbolt/part"
	"catchbolt/shard"
)

// P15.3

func TestViewOfAllInOrder(t *testing.T) {
	for range 10 { // whatever the order of a map
		c := check.Roomy(false)
		c.Lease = 10
		s := made(t, c)
		for i, tx := range mixed {
			sends(t, s, lock(tx, 1+i, "3", api.IS), "granted 3:"+check.Step(tx, 1+i)+"IS")
		}
		for _, tx := range []int{300, 20, 5} {
			sends(t, s, lock(tx, 1, "20", api.IX), "granted 20:"+check.Step(tx, 1)+"IX")
		}
		for tx, at := range map[int]string{300: "20.100", 20: "20.3", 5: "20.20"} {
			sends(t, s, lock(tx, 2, at, api.X), "granted "+at+":"+check.Step(tx, 2)+"X")
		}
		come(t, s,
			prepare(65537), prepare(99), decide(1000, 1), decide(2, 0), decide(7, 1), renew(8), prepare(11),
			lock(5, 3, "20.3", api.S), lock(300, 3, "20.3", api.S), lock(20, 3, "20.100", api.S), lock(256, 20, "3", api.IX), lock(100, 20, "3", api.X), lock(1, 20, "3", api.S), lock(21, 1, "3", api.IS),
		)
		v := s.View()
		v.Log = nil
		want := "states 1=Active 2=Aborted 5=Active 7=Committed 9=Active 10=Active 20=Active 21=Active 99=Prepared 100=Active 256=Active 300=Active 1000=Committed 65536=Active 65537=Prepared 1048576=Active; " +
			"leases 1 5 9 10 20 21 100 256 300 65536 1048576; book 1 5 9 10 20 21 99 100 256 300 65536 65537 1048576; " +
			"edges 1.20>100.20 1.20>256 5.3>20 20.3>300 21.1>1.20 21.1>100.20 100.20>1 100.20>9 100.20>10 100.20>99 100.20>256 100.20>65536 100.20>65537 100.20>1048576 300.3>5.3 300.3>20; " +
			"held 3:100IS 3:9IS 3:1048576IS 3:10IS 3:1IS 3:65536IS 3:99IS 3:65537IS 3:256IX 20:300IX 20:20IX 20:5IX 20.3:20X 20.20:5X 20.100:300X; " +
			"waits 3:100.20X 3:1.20S 3:21.1IS 20.3:5.3S 20.3:300.3S 20.100:20.3S"
		if got := check.Shard(v); got != want {
			t.Errorf("it has\n%s, want\n%s", got, want)
		}
		check.Stop(t)
	}
}

func TestLogIsInTheOrderOfGrants(t *testing.T) {
	check.Both(func(c api.Config) {
		s := made(t, c)
		come(t, s,
			lock(9, 3, "7", api.X), lock(2, 1, "3", api.IX), lock(2, 2, "3.5", api.X), lock(9, 4, "3", api.X), lock(2, 3, "1", api.S), lock(2, 3, "1", api.S), lock(5, 1, "9.1", api.X),
			decide(2, 1), lock(1, 9, "1", api.S), decide(9, 0), lock(1, 10, "1", api.IS), lock(1, 11, "1", api.IX),
		)
		want := "7:9.3X 3:2.1IX 3.5:2.2X 1:2.3S 3:9.4X 1:1.9S 1:1.10S 1:1.11X"
		if got := check.Granted(s.View().Log); got != want {
			t.Errorf("the log is %s, want %s", got, want)
		}
	})
}

func TestTheLogStaysWhenAllIsLetGo(t *testing.T) {
	s := made(t, check.Roomy(false))
	sends(t, s, lock(5, 1, "3", api.X), "granted 3:5.1X")
	sends(t, s, decide(5, 0), "ack 5")
	sends(t, s, lock(6, 1, "3", api.X), "granted 3:6.1X")
	sends(t, s, decide(6, 1), "ack 6")
	tells(t, s, "states 5=Aborted 6=Committed; log 3:5.1X 3:6.1X")
}

func TestStateOfNumbersThatNoTransactionHas(t *testing.T) {
	for state := range states {
		s := in(t, state, false)
		for _, tx := range check.WrongNumbers() {
			isState(t, s, tx, part.Fresh)
		}
		tells(t, s, ours(state))
	}
}

func TestTellingChangesNothing(t *testing.T) {
	check.Both(func(c api.Config) {
		s := many(t, c.Probe)
		before := of(s)
		for tx := -3; tx < 20; tx++ {
			s.State(tx)
			s.View()
		}
		tells(t, s, before)
		quiet(t, s, 3)
	})
}

func TestWhatViewToldMayBeChanged(t *testing.T) {
	check.Both(func(c api.Config) {
		s := many(t, c.Probe)
		before := of(s)
		for range 3 {
			check.SpoilShard(s.View())
			tells(t, s, before)
		}
		sends(t, s, decide(5, 1), "ack 5, "+grantedByMany)
		before = of(s)
		check.SpoilShard(s.View())
		tells(t, s, before)
	})
}

func TestListsOfOneViewShareNothing(t *testing.T) {
	s := made(t, check.Roomy(false))
	sends(t, s, lock(5, 1, "3", api.X), "granted 3:5.1X")
	v := s.View()
	v.Leases[0], v.Held[0].Tx = 99, 99
	if v.Book[0] != 5 || v.Log[0].Tx != 5 {
		t.Errorf("%+v", v)
	}
}

func TestWhatWasToldStaysAsItWas(t *testing.T) {
	check.Both(func(c api.Config) {
		s := many(t, c.Probe)
		v := s.View()
		want := check.Shard(v)
		for tx := 1; tx < 20; tx++ {
			s.Handle(decide(tx, tx%2))
			s.Handle(lock(30+tx, 1, "3", api.S))
			s.Tick()
		}
		if got := check.Shard(v); got != want {
			t.Errorf("what was told is\n%s, want\n%s", got, want)
		}
	})
}

// wrongMsg is what tests spoil what was sent by.
var wrongMsg = api.Msg{Kind: -1, Tx: -1, Seq: -1, Path: [api.MaxPath]api.Step{{Tx: -1}}}

func TestWhatIsSentIsNewMemory(t *testing.T) {
	check.Both(func(c api.Config) {
		c.Resend = 1
		s := made(t, c)
		for _, m := range []api.Msg{lock(5, 1, "3", api.X), lock(5, 2, "4.1", api.X), lock(5, 2, "4.1", api.X), lock(2, 1, "3", api.S), lock(1, 1, "3", api.S), probing(step(2, 0), step(30, 1))} {
			sent, err := s.Handle(m)
			if len(sent) == 0 && m.Tx > 1 || err != nil {
				t.Errorf("Handle(%+v) = %v, %v", m, sent, err)
			}
			check.Spoil(sent, wrongMsg)
		}
		check.Spoil(s.Tick(), wrongMsg)
		fromHere(t, s.Tick())
		stays(t, s, lock(5, 2, "4.1", api.X), "refused 5.2 9")
		sent, _ := s.Handle(decide(5, 1))
		check.Spoil(sent, wrongMsg)
		stays(t, s, lock(2, 1, "3", api.S), "granted 3:2.1S")
		stays(t, s, lock(1, 1, "3", api.S), "granted 3:1.1S")
		tells(t, s, "time 2; states 1=Active 2=Active 5=Committed; leases 1 2; book 1 2; held 3:2S 3:1S; log 3:5.1X 3:2.1S 3:1.1S")
	})
}

func TestShardsAreApart(t *testing.T) {
	a, b := made(t, check.Roomy(false)), numbered(t, 4, check.Roomy(false))
	sends(t, a, lock(5, 1, "3", api.X), "granted 3:5.1X")
	tells(t, b, "")
	m := lock(2, 1, "3", api.X)
	m.To = 4
	if sent, err := b.Handle(m); check.Sent(sent) != "granted 3:2.1X" || err != nil {
		t.Errorf("%v, %v", sent, err)
	}
	sends(t, a, lock(2, 1, "3", api.X), "wound 5 by 2")
	ticks(t, a, "")
	isState(t, b, 5, part.Fresh)
	tells(t, b, "states 2=Active; leases 2; book 2; held 3:2X; log 3:2.1X")
}

func TestNilShard(t *testing.T) {
	var s *shard.Shard
	for _, m := range slices.Concat(check.Messages(), check.WrongMessages(), []api.Msg{lock(5, 1, "3", api.X), decide(5, 1)}) {
		mayNot(t, s, m, api.ErrArg)
	}
	if sent := s.Tick(); len(sent) != 0 {
		t.Errorf("a nil shard's tick sends %v", sent)
	}
	for _, tx := range slices.Concat(check.Numbers(), check.WrongNumbers()) {
		isState(t, s, tx, part.Fresh)
	}
	tells(t, s, "")
}
