package shard_test

import (
	"slices"
	"testing"

	"catchbolt/api"
	"catchbolt/check"
	"catchbolt/part"
	"catchbolt/shard"
)

// sorted are numbers, rising.
func sorted(l []int) []int { return slices.Sorted(slices.Values(l)) }

// P15.2: who is hurt.

func TestWhoIsHurtIsToldOnce(t *testing.T) {
	s := made(t, check.Roomy(false))
	sends(t, s, lock(5, 1, "3", api.X), "granted 3:5.1X")
	sends(t, s, lock(7, 1, "3", api.X), "") // a younger one waits for it
	sends(t, s, lock(4, 1, "3", api.X), "wound 5 by 4, wound 7 by 4")
	stays(t, s, lock(4, 1, "3", api.X), "")
	stays(t, s, renew(5), "")
	stays(t, s, prepare(4), "vote 4 0")
	stays(t, s, renew(99), "")
	quiet(t, s, 5)
	sends(t, s, lock(2, 1, "3", api.X), "wound 4 by 2") // 5 and 7 are by 2 from now on, but hurt they were
	sends(t, s, lock(3, 1, "3", api.X), "")
	sends(t, s, lock(3, 2, "4", api.X), "refused 3.2 8")
	sends(t, s, lock(6, 1, "4", api.X), "granted 4:6.1X")
	sends(t, s, prepare(5), "vote 5 1")
	quiet(t, s, 5)
}

func TestWhoIsHurtByAnotherOneIsToldNoMore(t *testing.T) {
	c := check.Roomy(false)
	c.Resend = 2
	s := made(t, c)
	sends(t, s, lock(5, 1, "3", api.X), "granted 3:5.1X")
	sends(t, s, lock(2, 1, "3", api.X), "wound 5 by 2")
	sends(t, s, lock(4, 1, "3", api.X), "")
	ticks(t, s, "")
	ticks(t, s, "wound 5 by 2")
	sends(t, s, decide(2, 0), "ack 2") // now it is 4 by whom it is hurt
	ticks(t, s, "")
	ticks(t, s, "wound 5 by 4")
	sends(t, s, lock(1, 1, "3", api.X), "wound 4 by 1")
	ticks(t, s, "")
	ticks(t, s, "wound 4 by 1, wound 5 by 1")
}

func TestWhoIsHurtAgainIsToldAgain(t *testing.T) {
	s := made(t, check.Roomy(false))
	sends(t, s, lock(5, 1, "3", api.X), "granted 3:5.1X")
	for tx := 1; tx <= 4; tx++ {
		sends(t, s, lock(tx, 1, "3", api.X), "wound 5 by "+check.Step(tx, 0))
		sends(t, s, decide(tx, 0), "ack "+check.Step(tx, 0)) // nobody waits for 5 then
	}
	sends(t, s, lock(9, 1, "3", api.X), "")
	sends(t, s, decide(5, 1), "ack 5, granted 3:9.1X")
	sends(t, s, lock(6, 1, "3", api.X), "wound 9 by 6")
	sends(t, s, decide(6, 0), "ack 6")
	stays(t, s, renew(9), "")
	sends(t, s, lock(7, 1, "3", api.X), "wound 9 by 7")
}

func TestWhoIsHurtNoMoreByATickIsToldAgain(t *testing.T) {
	for between := range 3 {
		c := check.Roomy(false)
		c.Lease = 3
		s := made(t, c)
		sends(t, s, lock(2, 1, "3", api.IS), "granted 3:2.1IS")
		quiet(t, s, 1)
		sends(t, s, lock(5, 1, "3", api.IX), "granted 3:5.1IX")
		sends(t, s, lock(2, 2, "3", api.S), "wound 5 by 2")
		quiet(t, s, 2)
		sends(t, s, renew(5), "")
		ticks(t, s, "expired 2")
		for range between {
			stays(t, s, renew(5), "")
		}
		sends(t, s, lock(1, 1, "3", api.X), "wound 5 by 1")
	}
}

func TestAllThatAreHurtAreToldRising(t *testing.T) {
	s := made(t, check.Roomy(false))
	for _, tx := range slices.DeleteFunc(slices.Clone(mixed), func(tx int) bool { return tx < 3 }) {
		sends(t, s, lock(tx, 1, "3", api.IS), "granted 3:"+check.Step(tx, 1)+"IS")
	}
	sends(t, s, lock(98, 1, "3", api.X), "wound 99 by 98, wound 100 by 98, wound 256 by 98, wound 1000 by 98, wound 65536 by 98, wound 65537 by 98, wound 1048576 by 98")
	sends(t, s, lock(1, 1, "3", api.X), "wound 9 by 1, wound 10 by 1, wound 98 by 1")
	stays(t, s, renew(9), "")
}

func TestEachIsHurtByTheEldestOne(t *testing.T) {
	s := made(t, check.Roomy(false))
	sends(t, s, lock(9, 1, "3", api.X), "granted 3:9.1X")
	sends(t, s, lock(9, 2, "5", api.X), "granted 5:9.2X")
	sends(t, s, lock(9, 3, "4", api.S), "granted 4:9.3S")
	sends(t, s, lock(6, 1, "4", api.S), "granted 4:6.1S")
	sends(t, s, lock(7, 1, "3", api.X), "wound 9 by 7")
	sends(t, s, lock(5, 1, "4", api.X), "wound 6 by 5")
	sends(t, s, lock(3, 1, "5", api.X), "")
	c := check.Roomy(false)
	c.Resend = 1
	again := made(t, c)
	come(t, again, lock(9, 1, "3", api.X), lock(9, 2, "4", api.X), lock(9, 3, "5", api.X), lock(7, 1, "3", api.X), lock(4, 1, "4", api.X), lock(5, 1, "5", api.X), lock(6, 1, "4", api.X))
	ticks(t, again, "wound 9 by 4")
}

func TestOneMayBeHurtByWhatItIsGrantedItself(t *testing.T) {
	s := made(t, check.Roomy(false))
	sends(t, s, lock(5, 1, "3", api.IS), "granted 3:5.1IS")
	sends(t, s, lock(1, 1, "3", api.IX), "granted 3:1.1IX")
	sends(t, s, lock(2, 1, "3", api.S), "") // it waits for the elder one
	sends(t, s, lock(5, 2, "3", api.IX), "granted 3:5.2IX, wound 5 by 2")
}

func TestWhoIsPreparedMayBeHurt(t *testing.T) {
	s := in(t, part.Prepared, false)
	sends(t, s, lock(2, 1, "3", api.X), "wound 5 by 2")
	isState(t, s, 5, part.Prepared)
}

func TestWithProbesNobodyIsHurt(t *testing.T) {
	c := check.Roomy(true)
	c.Resend = 1
	s := made(t, c)
	sends(t, s, lock(5, 1, "3", api.X), "granted 3:5.1X")
	sends(t, s, lock(2, 1, "3", api.X), "probe 2.1 > 5")
	sends(t, s, lock(1, 1, "3", api.X), "probe 1.1 > 2.1, probe 1.1 > 5")
	ticks(t, s, "probe 1.1 > 2.1, probe 1.1 > 5, probe 2.1 > 5")
	stays(t, s, renew(5), "")
	sends(t, s, decide(5, 0), "ack 5, granted 3:2.1X")
	ticks(t, s, "probe 1.1 > 2")
}

// P15.2: probes.

func TestOneThatWaitsSendsItsProbesAlone(t *testing.T) {
	s := made(t, check.Roomy(true))
	sends(t, s, lock(9, 1, "3", api.IX), "granted 3:9.1IX")
	sends(t, s, lock(2, 1, "3", api.IX), "granted 3:2.1IX")
	sends(t, s, lock(1, 1, "3", api.IS), "granted 3:1.1IS")
	sends(t, s, lock(5, 7, "3", api.S), "probe 5.7 > 2, probe 5.7 > 9")
	sends(t, s, lock(3, 4, "3", api.X), "probe 3.4 > 1, probe 3.4 > 2, probe 3.4 > 5.7, probe 3.4 > 9")
	sends(t, s, lock(2, 1048576, "3", api.X), "probe 2.1048576 > 1, probe 2.1048576 > 9")
	sends(t, s, lock(1048576, 1, "3", api.IS), "probe 1048576.1 > 2.1048576, probe 1048576.1 > 3.4, probe 1048576.1 > 5.7")
}

// passing is a shard where 5 has X of 3, for which 7 waits by its request 4, and 9 by 2; where 8 is Prepared and 6 decided; and 3, who has a request, waits for nothing.
func passing(t *testing.T, c api.Config) *shard.Shard {
	t.Helper()
	s := made(t, c)
	come(t, s,
		lock(5, 1, "3", api.X), lock(7, 3, "4", api.S), lock(7, 4, "3", api.X), lock(7, 6, "3", api.S), lock(9, 2, "3", api.S),
		lock(8, 1, "5", api.X), prepare(8), lock(6, 1, "6", api.X), decide(6, 1), lock(3, 1, "7", api.X),
	)
	return s
}

func TestAProbeGoesOnByWhatItsNextWaitsFor(t *testing.T) {
	check.Both(func(c api.Config) { // a probe that comes goes on, whatever the config says
		s := passing(t, c)
		stays(t, s, probing(step(7, 0), step(1, 1)), "probe 1.1 7.4 > 5")
		stays(t, s, probing(step(7, 4), step(1, 1)), "probe 1.1 7.4 > 5") // the request that waits, not the last one
		stays(t, s, probing(step(9, 2), step(20, 1), step(1048576, 1048576)), "probe 20.1 1048576.1048576 9.2 > 5, probe 20.1 1048576.1048576 9.2 > 7.4")
		stays(t, s, probing(step(9, 0), step(5, 1)), "probe 5.1 9.2 > 5, probe 5.1 9.2 > 7.4")
		seven := []api.Step{step(21, 1), step(22, 2), step(23, 3), step(24, 4), step(25, 5), step(26, 6), step(27, 7)}
		stays(t, s, probing(step(7, 0), seven...), "probe 21.1 22.2 23.3 24.4 25.5 26.6 27.7 7.4 > 5")
	})
}

func TestAProbeEndsWhereItsNextDoesNotWait(t *testing.T) {
	check.Both(func(c api.Config) {
		s := passing(t, c)
		for _, tx := range []int{1, 2, 3, 4, 5, 6, 8, 10, 1048576} {
			for _, seq := range []int{0, 1, 4} {
				stays(t, s, probing(step(tx, seq), step(20, 1)), "")
			}
		}
		isState(t, s, 1, part.Fresh)
	})
}

func TestAProbeEndsWhereGoingOnHasAnError(t *testing.T) {
	check.Both(func(c api.Config) {
		s := passing(t, c)
		for _, seq := range []int{1, 3, 5, 6, 1048576} {
			stays(t, s, probing(step(7, seq), step(20, 1)), "") // it waits by another one
		}
		stays(t, s, probing(step(7, 0), step(7, 4)), "") // it has been there
		stays(t, s, probing(step(7, 4), step(20, 1), step(7, 3)), "")
		stays(t, s, probing(step(7, 0), step(21, 1), step(22, 2), step(23, 3), step(24, 4), step(25, 5), step(26, 6), step(27, 7), step(28, 8)), "") // it has no room
	})
}

// P15.2: ticks.

func TestTheTimeIsOneMoreByEachTick(t *testing.T) {
	check.Both(func(c api.Config) {
		s := made(t, c)
		for n := range 2500 {
			if now := s.View().Time; now != n {
				t.Errorf("the time is %d behind %d ticks", now, n)
			}
			ticks(t, s, "")
		}
		tells(t, s, "time 2500")
		sends(t, s, renew(5), "")
		tells(t, s, "time 2500")
	})
}

func TestMultiplesOfResendAlone(t *testing.T) {
	for _, resend := range []int{1, 2, 3, 4, 5, 7, 10, 16, 100, 999, 1000} {
		check.Both(func(c api.Config) {
			c.Resend = resend
			s := made(t, c)
			want := either(c, "wound 5 by 2", "probe 2.1 > 5")
			sends(t, s, lock(5, 1, "3", api.X), "granted 3:5.1X")
			sends(t, s, lock(2, 1, "3", api.X), want)
			for n := 1; n <= max(20, 2*resend); n++ {
				sends(t, s, renew(2), "")
				sends(t, s, renew(5), "")
				if n%resend == 0 {
					ticks(t, s, want)
				} else {
					ticks(t, s, "")
				}
			}
			check.Stop(t)
		})
	}
}

func TestExpiredOnesAreSentAgainTillTheyAreDecided(t *testing.T) {
	check.Both(func(c api.Config) {
		c.Lease, c.Resend = 4, 3
		s := made(t, c)
		for i, tx := range mixed {
			sends(t, s, lock(tx, 1, check.Res(api.Res{Table: i + 1}), api.X), "granted "+check.Granted([]api.Grant{{Tx: tx, Seq: 1, At: api.Res{Table: i + 1}, Mode: api.X}}))
		}
		quiet(t, s, 3)
		all := expiredText(sorted(mixed))
		ticks(t, s, all)
		quiet(t, s, 1)
		ticks(t, s, all)
		sends(t, s, decide(10, 0), "ack 10")
		sends(t, s, decide(1, 1), "ack 1")
		stays(t, s, renew(9), "expired 9")
		stays(t, s, prepare(9), "vote 9 0")
		stays(t, s, lock(9, 1, "2", api.X), "expired 9")
		stays(t, s, lock(9, 2, "2", api.X), "expired 9")
		quiet(t, s, 2)
		ticks(t, s, expiredText(slices.DeleteFunc(sorted(mixed), func(tx int) bool { return tx == 10 || tx == 1 })))
		for _, tx := range mixed {
			sends(t, s, decide(tx, 0), "ack "+check.Step(tx, 0))
		}
		quiet(t, s, 9)
	})
}

// expiredText is what is sent of those whose leases ended.
func expiredText(l []int) string {
	var all []api.Msg
	for _, tx := range l {
		all = append(all, api.Msg{Kind: api.KExpired, Tx: tx})
	}
	return check.Sent(all)
}

func TestProbesAreSentAgainRising(t *testing.T) {
	c := check.Roomy(true)
	c.Resend = 2
	s := made(t, c)
	come(t, s,
		lock(10, 1, "9", api.X), lock(20, 1, "3", api.IX), lock(21, 1, "3", api.IX), lock(20, 2, "3.5", api.X), lock(20, 3, "1", api.X),
		lock(100, 1, "9", api.S), lock(9, 1, "3", api.S), lock(1048576, 1, "3", api.IX), lock(21, 4, "3.5", api.X), lock(1, 1, "9", api.S), lock(2, 1, "1", api.S),
	)
	want := "probe 1.1 > 10, probe 1.1 > 100.1, probe 2.1 > 20, probe 9.1 > 20, probe 9.1 > 21, probe 21.4 > 20, probe 100.1 > 10, probe 1048576.1 > 9.1"
	for range 3 {
		ticks(t, s, "")
		ticks(t, s, want)
	}
	sends(t, s, decide(20, 0), "ack 20, granted 1:2.1S, granted 3.5:21.4X")
	ticks(t, s, "")
	ticks(t, s, "probe 1.1 > 10, probe 1.1 > 100.1, probe 9.1 > 21, probe 100.1 > 10, probe 1048576.1 > 9.1")
}

func TestWoundsAreSentAgainRising(t *testing.T) {
	c := check.Roomy(false)
	c.Resend = 2
	s := made(t, c)
	come(t, s,
		lock(100, 1, "3", api.S), lock(20, 1, "3", api.S), lock(9, 1, "4", api.X), lock(7, 1, "5", api.X), lock(1, 1, "6", api.X),
		lock(10, 1, "3", api.X), lock(8, 1, "4", api.X), lock(6, 1, "4", api.X), lock(30, 1, "5", api.X), lock(2, 1, "6", api.X),
	)
	for range 3 {
		ticks(t, s, "")
		ticks(t, s, "wound 8 by 6, wound 9 by 6, wound 20 by 10, wound 100 by 10")
	}
	sends(t, s, decide(9, 1), "ack 9, granted 4:8.1X")
	ticks(t, s, "")
	ticks(t, s, "wound 8 by 6, wound 20 by 10, wound 100 by 10")
}

// due is a shard whose leases are of 6 ticks, and which sends again all 3 ticks, at the time 11: 40 and 30 are Expired, 20 and 4 will be at the next tick, 6 and 2 later.
func due(t *testing.T, probe bool) *shard.Shard {
	t.Helper()
	c := check.Roomy(probe)
	c.Lease, c.Resend = 6, 3
	s := made(t, c)
	come(t, s, lock(40, 1, "1", api.X), lock(30, 1, "2", api.X))
	for range 6 {
		s.Tick()
	}
	come(t, s, lock(20, 1, "3", api.X), lock(4, 1, "4", api.X), lock(4, 2, "3", api.X))
	for range 5 {
		s.Tick()
	}
	come(t, s, lock(6, 1, "3", api.X), lock(2, 1, "4", api.X))
	tells(t, s, "time 11; states 2=Active 4=Active 6=Active 20=Active 30=Expired 40=Expired; leases 2 4 6 20; book 2 4 6 20; "+
		"edges 2.1>4 4.2>20 6.1>4.2 6.1>20; held 3:20X 4:4X; waits 3:4.2X 3:6.1X 4:2.1X; log 1:40.1X 2:30.1X 3:20.1X 4:4.1X")
	return s
}

func TestATickSendsAllInOrder(t *testing.T) {
	s := due(t, false)
	ticks(t, s, "expired 30, expired 40, wound 4 by 2, wound 20 by 4, expired 4, granted 4:2.1X, expired 20, granted 3:6.1X")
	dueIsOver(t, s)
	s = due(t, true)
	ticks(t, s, "expired 30, expired 40, probe 2.1 > 4, probe 4.2 > 20, probe 6.1 > 4.2, probe 6.1 > 20, expired 4, granted 4:2.1X, expired 20, granted 3:6.1X")
	dueIsOver(t, s)
}

// dueIsOver checks what is left behind that tick, and what is sent again then.
func dueIsOver(t *testing.T, s *shard.Shard) {
	t.Helper()
	tells(t, s, "time 12; states 2=Active 4=Expired 6=Active 20=Expired 30=Expired 40=Expired; leases 2 6; book 2 6; held 3:6X 4:2X; log 1:40.1X 2:30.1X 3:20.1X 4:4.1X 4:2.1X 3:6.1X")
	quiet(t, s, 2)
	ticks(t, s, "expired 4, expired 20, expired 30, expired 40")
	quiet(t, s, 1)
	ticks(t, s, "expired 2, expired 6")
}

func TestOneThatIsDueMayBeGrantedAhead(t *testing.T) {
	check.Both(func(c api.Config) {
		c.Lease = 3
		s := made(t, c)
		come(t, s, lock(9, 1, "3", api.X), lock(2, 1, "3", api.X), lock(5, 1, "3", api.X), lock(7, 1, "3", api.X)) // all leases end at once
		quiet(t, s, 2)
		ticks(t, s, "expired 2, expired 5, expired 7, expired 9")
		tells(t, s, "time 3; states 2=Expired 5=Expired 7=Expired 9=Expired; log 3:9.1X")
		s = made(t, c)
		come(t, s, lock(2, 1, "3", api.X), lock(5, 1, "3", api.X), lock(7, 1, "3", api.X), lock(9, 1, "3", api.X))
		quiet(t, s, 2)
		stays(t, s, renew(9), "")
		ticks(t, s, "expired 2, granted 3:5.1X, expired 5, granted 3:7.1X, expired 7, granted 3:9.1X")
		tells(t, s, "time 3; states 2=Expired 5=Expired 7=Expired 9=Active; leases 9; book 9; held 3:9X; log 3:2.1X 3:5.1X 3:7.1X 3:9.1X")
	})
}

func TestManyLeasesEndAtOneTick(t *testing.T) {
	check.Both(func(c api.Config) {
		c.Lease = 5
		s := made(t, c)
		for _, tx := range mixed {
			sends(t, s, lock(tx, 1, "3", api.IS), "granted 3:"+check.Step(tx, 1)+"IS")
		}
		quiet(t, s, 4)
		sends(t, s, renew(99), "")
		rest := slices.DeleteFunc(sorted(mixed), func(tx int) bool { return tx == 99 })
		ticks(t, s, expiredText(rest))
		quiet(t, s, 3)
		ticks(t, s, "expired 99")
		quiet(t, s, 20)
	})
}
