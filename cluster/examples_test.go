package cluster_test

import (
	"testing"

	"catchbolt/api"
	"catchbolt/check"
)

// The document's ten examples of the whole, each by its number.

func TestFirstExample(t *testing.T) {
	check.Both(func(c api.Config) {
		k := made(t, c, 1, "begin 1")
		sends(t, k, "lock 1 3X", "0>3 lock 3:1.1X", 0)
		sends(t, k, "deliver 0", "3>0 granted 3:1.1X", 0)
		sends(t, k, "deliver 0", "", 0)
		traced(t, k, "began 1 client 1, asked 1 3X, granted 1 3X")
	})
}

func TestSecondExample(t *testing.T) {
	check.Both(func(c api.Config) {
		k := made(t, c, 1, "begin 1, lock 1 3.1S")
		sends(t, k, "deliver 0", "3>0 refused 1.1 9", 0)
		does(k, "deliver 0")
		traced(t, k, "asked 1 3.1S, refused 1 3.1 9")
	})
}

func TestThirdExample(t *testing.T) {
	check.Both(func(c api.Config) {
		k := made(t, c, 3, "begin 1, begin 2, begin 3, lock 1 3S, lock 2 3S, deliver 0, deliver 0, deliver 0, deliver 0")
		traced(t, k, "asked 1 3S, asked 2 3S, granted 1 3S, granted 2 3S")
		does(k, "lock 3 3X")
		k.Calm(9)
		does(k, "lock 2 3X")
		k.Calm(9) // up, so that it waits ahead of 3, which came ahead of it
		tells(t, k, 3, "time 18; states 1=Active 2=Active 3=Active; leases 1 2 3; book 1 2 3; edges 2.2>1 3.1>1 3.1>2; held 3:1S 3:2S; waits 3:2.2X 3:3.1X; log 3:1.1S 3:2.1S")
		does(k, "commit 1")
		k.Calm(9)
		traced(t, k, "asked 3 3X, asked 2 3X, finish 1, committed 1, granted 2 3X")
	})
}

func TestFourthExample(t *testing.T) {
	k := made(t, check.Roomy(false), 2, "begin 1, begin 2, lock 2 3X, deliver 0, deliver 0, lock 1 3S")
	sends(t, k, "deliver 0", "3>0 wound 2 by 1", 0)
	sends(t, k, "deliver 0", "0>3 decide 2 0", 0)
	traced(t, k, "aborted 2 3")
	sends(t, k, "deliver 0", "3>0 ack 2, 3>0 granted 3:1.1S", 0)
	does(k, "deliver 0, deliver 0")
	traced(t, k, "aborted 2 3, granted 1 3S")
}

func TestFifthExample(t *testing.T) {
	k := made(t, check.Roomy(true), 2, "begin 1, begin 2, lock 1 1X, lock 2 2X, deliver 0, deliver 0, deliver 0, deliver 0, lock 1 2S")
	sends(t, k, "deliver 0", "2>0 probe 1.2 > 2", 0)
	sends(t, k, "deliver 0", "", 0) // as 2 asks for nothing yet
	does(k, "lock 2 1S")
	sends(t, k, "deliver 0", "1>0 probe 2.2 > 1", 0)
	sends(t, k, "deliver 0", "0>2 probe 2.2 > 1", 0)
	sends(t, k, "deliver 0", "2>0 probe 2.2 1.2 > 2", 0)
	sends(t, k, "deliver 0", "0>1 decide 2 0, 0>2 decide 2 0", 0)
	traced(t, k, "asked 1 2S, asked 2 1S, aborted 2 4")
	k.Calm(3)
	traced(t, k, "aborted 2 4, granted 1 2S")
}

func TestSixthExample(t *testing.T) {
	check.Both(func(c api.Config) {
		k := made(t, c, 1, "begin 1, lock 1 3X, deliver 0, deliver 0")
		sends(t, k, "commit 1", "0>3 prepare 1", 0)
		sends(t, k, "deliver 0", "3>0 vote 1 1", 0)
		sends(t, k, "deliver 0", "0>3 decide 1 1", 0)
		traced(t, k, "finish 1, committed 1")
		sends(t, k, "deliver 0", "3>0 ack 1", 0)
		sends(t, k, "deliver 0", "", 0)
		tells(t, k, 3, "states 1=Committed; log 3:1.1X")
		if got := check.Txn(k.View().Coord.Txns[0]); got != "1 Committed; request 1 of 3: 3X; touched 3; votes 3; acks 3; got 3:1.1X" {
			t.Errorf("it is %s", got)
		}
	})
}

func TestSeventhExample(t *testing.T) {
	check.Both(func(c api.Config) {
		c.Resend = 3
		k := made(t, c, 1, "begin 1, lock 1 3X, deliver 0, deliver 0, commit 1, deliver 0, deliver 0, drop 0")
		sends(t, k, "tick", "", 0)
		sends(t, k, "tick", "", 0)
		sends(t, k, "tick", "0>3 decide 1 1", 0)
		does(k, "deliver 0, deliver 0")
		for range 6 {
			sends(t, k, "tick", "", 0)
		}
	})
}

func TestEighthExample(t *testing.T) {
	check.Both(func(c api.Config) {
		c.Lease = 3
		k := made(t, c, 2, "begin 1, lock 1 3X, deliver 0, deliver 0, tick, crash 1")
		sends(t, k, "tick", "", 0)
		sends(t, k, "tick", "3>0 expired 1", 0) // as it has a lease since the beginning, which isn't renewed
		traced(t, k, "crashed client 1")
		sends(t, k, "tick", "0>3 decide 1 0", 0)
		traced(t, k, "crashed client 1, aborted 1 5")
	})
}

func TestNinthExample(t *testing.T) {
	check.Both(func(c api.Config) {
		c.Lease, c.Resend = 3, 2
		k := made(t, c, 1, "begin 1, lock 1 3X, deliver 0, deliver 0, tick")
		sends(t, k, "tick", "0>3 renew 1", 0)
		does(k, "drop 0")
		sends(t, k, "tick", "3>0 expired 1", 0)
		does(k, "drop 0, commit 1")
		sends(t, k, "deliver 0", "3>0 vote 1 0", 0)
		does(k, "deliver 0")
		traced(t, k, "finish 1, aborted 1 2")
	})
}

func TestTenthExample(t *testing.T) {
	check.Both(func(c api.Config) {
		k := made(t, c, 1, "begin 1, lock 1 3X, twice 0, deliver 0, deliver 1, abort 1, deliver 1, deliver 1")
		net(t, k, "0>3 lock 3:1.1X")
		sends(t, k, "deliver 0", "", 0)
		tells(t, k, 3, "states 1=Aborted; log 3:1.1X")
	})
}
