package cluster_test

import (
	"math"
	"strings"
	"testing"

	"catchbolt/api"
	"catchbolt/check"
	"catchbolt/cluster"
	"catchbolt/script"
)

// P21.2: Run

func TestRun(t *testing.T) {
	check.Both(func(c api.Config) {
		k := made(t, c, 2)
		for _, q := range []struct {
			b    []byte
			many int
			want string
		}{
			{nil, 0, ""},
			{[]byte{}, 0, ""},
			{[]byte{2}, 1, ""},
			{[]byte{2, 1, 0, 0}, 1, ""},
			{[]byte{2, 1, 0, 0, 1}, 1, ""},
			{[]byte{0, 2, 1, 0, 0, 0}, 2, ""},
			{[]byte{2, 1, 0, 0, 0}, 1, "began 1 client 1"},
			{[]byte{2, 2, 0, 0, 0, 3, 1, 3, 14, 4, 2}, 3, "began 1 client 1, began 2 client 2, asked 1 3.14X"},
			{[]byte{10, 1, 0, 0, 0, 4, 2, 0, 0, 0, 255, 255, 255, 255, 255, 6, 2, 0, 0, 0, 0, 0, 0, 0, 0}, 5, "asked 1 3.14X, committed 2, crashed client 2"},
			{[]byte{7, 0, 0, 0, 0, 7, 0, 0, 0, 0}, 2, "refused 1 3.14 9"},
		} {
			if many := k.Run(q.b); many != q.many {
				t.Errorf("Run(%v) = %d, want %d", q.b, many, q.many)
			}
			if q.want != "" {
				traced(t, k, q.want)
			}
		}
		has(t, k, made(t, c, 2, "begin 1, begin 2, lock 1 3.14X, commit 2, crash 2, deliver 0, deliver 0").View())
	})
}

func TestRunLeavesItsBytes(t *testing.T) {
	check.Both(func(c api.Config) {
		l := entries("begin 1, lock 1 3X, deliver 0, tick, deliver 0, lock 1 2X")
		b := append(bytes(t, l...), 2, 2, 0, 0, 0)
		k := made(t, c, 2)
		if many := k.Run(b[:len(b)-5]); many != len(l) {
			t.Errorf("Run = %d", many)
		}
		if string(b) != string(bytes(t, l...))+"\x02\x02\x00\x00\x00" {
			t.Errorf("the bytes are %v", b)
		}
		check.Spoil(b, 1)
		has(t, k, made(t, c, 2, told(l)).View())
	})
}

// P21.2: Calm

func TestCalmRound(t *testing.T) {
	check.Both(func(c api.Config) {
		c.Resend = 2
		k := made(t, c, 2, "begin 1, lock 1 3X, begin 2, lock 2 2X, drop 1")
		k.Calm(1)
		net(t, k, "3>0 granted 3:1.1X")
		k.Calm(1) // by whose tick both are asked again, which comes at once
		net(t, k, "3>0 granted 3:1.1X, 2>0 granted 2:2.1X")
		traced(t, k, "asked 2 2X, granted 1 3X")
		k.Calm(1)
		net(t, k, "")
		traced(t, k, "granted 1 3X, granted 2 2X")
		k.Calm(1)
		net(t, k, "")
		tells(t, k, 3, "time 4; states 1=Active; leases 1; book 1; held 3:1X; log 3:1.1X")
		if v := k.View(); v.Coord.Time != 4 || v.Lost != 0 {
			t.Errorf("it has\n%s", text(v))
		}
	})
}

func TestMessagesComeInOrder(t *testing.T) {
	check.Both(func(c api.Config) {
		k := made(t, c, 4, "begin 1, begin 2, begin 3, begin 4, lock 3 3S, lock 4 2X, lock 2 3S, lock 1 3S, twice 1")
		k.Calm(1)
		net(t, k, "3>0 granted 3:3.1S, 2>0 granted 2:4.1X, 3>0 granted 3:2.1S, 3>0 granted 3:1.1S, 2>0 granted 2:4.1X")
		k.Calm(1)
		traced(t, k, "asked 1 3S, granted 3 3S, granted 4 2X, granted 2 3S, granted 1 3S")
	})
}

// In a calm round all are taken off the net ahead of the first one's coming, so that what is sent has all the room.
func TestCalmRoundOfAFullNet(t *testing.T) {
	check.Both(func(c api.Config) {
		for flight, want := range [][]string{1: {"3>0 ack 1"}, 2: {"3>0 ack 1", "3>0 granted 3:2.1S"}, 3: {"3>0 ack 1", "3>0 granted 3:2.1S", "3>0 granted 3:3.1S"}, 4: {"3>0 ack 1", "3>0 granted 3:2.1S", "3>0 granted 3:3.1S", "3>0 ack 1"}} {
			if c.Flight = flight; flight == 0 {
				continue
			}
			k := made(t, c, 3, "begin 1, lock 1 3X, deliver 0, deliver 0, begin 2, lock 2 3S, deliver 0, drop 0, begin 3, lock 3 3S, deliver 0")
			for len(k.View().Net) > 0 {
				does(k, "drop 0")
			}
			does(k, "abort 1, twice 0, twice 0, twice 0")
			before := k.View()
			k.Calm(1)
			net(t, k, strings.Join(want, ", "))
			if v := k.View(); len(before.Net) != flight || v.Lost-before.Lost != 2 {
				t.Errorf("of %d it has\n%s", flight, text(v))
			}
		}
	})
}

func TestWhatATickSendsComesBehindWhatWasOnItsWay(t *testing.T) {
	check.Both(func(c api.Config) {
		c.Lease, c.Flight = 1, 2
		k := made(t, c, 2, "begin 1, lock 1 3X, deliver 0, deliver 0, begin 2, lock 2 2X")
		k.Calm(1) // by whose tick the lease ends, of which 3 tells at once
		net(t, k, "2>0 granted 2:2.1X, 0>3 decide 1 0")
		traced(t, k, "asked 2 2X, aborted 1 5")
		k.Calm(1) // by whose tick 2 tells so, too, for which there is no room
		net(t, k, "3>0 ack 1")
		traced(t, k, "aborted 1 5, granted 2 2X")
		tells(t, k, 2, "time 2; states 2=Expired; log 2:2.1X")
		if v := k.View(); v.Lost != 1 {
			t.Errorf("it has\n%s", text(v))
		}
	})
}

// busy is a cluster in which much happens of itself: each tick sends, and leases end.
func busy(t *testing.T, c api.Config) *cluster.Cluster {
	t.Helper()
	c.Lease, c.Resend = 40, 1
	return made(t, c, 4, "begin 1, begin 2, begin 3, begin 4, lock 1 3X, deliver 0, deliver 0, lock 2 2X, deliver 0, deliver 0, lock 3 3X, deliver 0, lock 4 2S, deliver 0, lock 1 1X, drop 0, crash 2, lock 2 3X, twice 0")
}

func TestSoManyRounds(t *testing.T) {
	check.Both(func(c api.Config) {
		want := busy(t, c)
		for rounds := range 60 {
			k := busy(t, c)
			k.Calm(rounds)
			has(t, k, want.View())
			k = busy(t, c)
			k.Calm(rounds / 3)
			k.Calm(rounds - rounds/3)
			has(t, k, want.View())
			want.Calm(1)
		}
	})
}

func TestNoRounds(t *testing.T) {
	check.Both(func(c api.Config) {
		k := busy(t, c)
		before := k.View()
		for _, rounds := range []int{0, -1, -2, -10000, -10001, math.MinInt32, math.MinInt, math.MinInt + 1, -1 << 32, -1<<32 + 1} {
			k.Calm(rounds)
			has(t, k, before)
		}
	})
}

func TestRoundsAtMost(t *testing.T) {
	c := check.Roomy(false)
	c.Shards = 1
	for rounds, want := range map[int]int{9999: 9999, 10000: 10000, 10001: 10000, 10002: 10000, 65536: 10000, 1 << 20: 10000, 1 << 32: 10000, 1<<32 + 1: 10000, math.MaxInt: 10000, math.MaxInt - 1: 10000} {
		k := made(t, c, 1)
		k.Calm(rounds)
		if v := k.View(); v.Coord.Time != want || v.Shards[0].Time != want {
			t.Errorf("behind %d rounds it has\n%s", rounds, text(v))
		}
		k.Calm(7)
		if v := k.View(); v.Coord.Time != want+7 {
			t.Errorf("behind %d rounds, and 7, it has\n%s", rounds, text(v))
		}
	}
}

// P21.3

func TestViewOfAllInOrder(t *testing.T) {
	c := check.Roomy(false)
	c.Flight = 4
	k := made(t, c, 3, "tick, begin 3, lock 3 4IX, deliver 0, deliver 0, lock 3 4.1X, deliver 0, deliver 0, begin 1, lock 1 1X, deliver 0, deliver 0, lock 1 4S, deliver 0, begin 2, lock 2 1X, twice 0, twice 0, twice 0, commit 3, tick")
	want := "time 2\n  last 3\n  1 Preparing; request 2 of 4: 4.1X; touched 4; got 4:1.1IX 4.1:1.2X\n  2 Active; request 2 of 4: 4S, open; touched 1 4; got 1:2.1X\n  3 Active; request 1 of 1: 1X, open; touched 1" +
		"\n  trace began 1 client 3, asked 1 4IX, granted 1 4IX, asked 1 4.1X, granted 1 4.1X, began 2 client 1, asked 2 1X, granted 2 1X, asked 2 4S, began 3 client 2, asked 3 1X, finish 1" +
		"\n  shard 1: time 2; states 2=Active; leases 2; book 2; held 1:2X; log 1:2.1X" +
		"\n  shard 2: time 2\n  shard 3: time 2" +
		"\n  shard 4: time 2; states 1=Active 2=Active; leases 1 2; book 1 2; edges 2.2>1; held 4:1IX 4.1:1X; waits 4:2.2S; log 4:1.1IX 4.1:1.2X" +
		"\n  net 0>1 lock 1:3.1X, 0>1 lock 1:3.1X, 0>1 lock 1:3.1X, 0>1 lock 1:3.1X\n  lost 1"
	for range 3 {
		if got := of(k); got != want {
			t.Errorf("it has\n%s, want\n%s", got, want)
		}
	}
}

func TestTellingChangesNothing(t *testing.T) {
	check.Both(func(c api.Config) {
		k, twin := busy(t, c), busy(t, c)
		for range 50 {
			k.View()
			k.Calm(1)
			twin.Calm(1)
		}
		has(t, k, twin.View())
	})
}

// spoil changes all of a view, its lists' lists too, and what is behind them in their room.
func spoil(v cluster.View) {
	check.SpoilCoord(v.Coord)
	for _, s := range v.Shards {
		check.SpoilShard(s)
	}
	check.Spoil(v.Shards, v.Shards[0])
	check.Spoil(v.Net, api.Msg{Kind: -1, Tx: -1})
}

func TestWhatIsToldIsNewMemory(t *testing.T) {
	check.Both(func(c api.Config) {
		k := busy(t, c)
		for range 50 {
			one, want := k.View(), of(k)
			spoil(k.View())
			if of(k) != want || text(one) != want {
				t.Fatalf("it has\n%s, and told\n%s, want\n%s", of(k), text(one), want)
			}
			k.Calm(1)
			does(k, "begin 1, lock 1 3S, commit 3, abort 4")
			if text(one) != want {
				t.Fatalf("it told\n%s, want\n%s", text(one), want)
			}
		}
	})
}

func TestClustersAreApart(t *testing.T) {
	check.Both(func(c api.Config) {
		a, b := busy(t, c), busy(t, c)
		before := b.View()
		a.Calm(30)
		has(t, b, before)
		b.Calm(30)
		has(t, a, b.View())
	})
}

func TestNilCluster(t *testing.T) {
	var k *cluster.Cluster
	for _, e := range append(entries("tick, begin 1, lock 1 3X, commit 1, abort 1, crash 1, deliver 0, drop 0, twice 0, skip"), script.Entry{Kind: -1}) {
		k.Do(e)
	}
	if many := k.Run(bytes(t, entries("begin 1, tick")...)) + k.Run(nil) + k.Run([]byte{1}); many != 0 {
		t.Errorf("Run = %d", many)
	}
	for _, rounds := range []int{-1, 0, 1, 20000, math.MaxInt} {
		k.Calm(rounds)
	}
	has(t, k, cluster.View{})
}
