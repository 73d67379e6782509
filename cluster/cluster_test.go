package cluster_test

import (
	"slices"
	"strconv"
	"strings"
	"testing"

	"catchbolt/api"
	"catchbolt/check"
	"catchbolt/cluster"
	"catchbolt/script"
	"catchbolt/shard"
)

// The document's example.

func TestExample(t *testing.T) {
	check.Both(func(c api.Config) {
		c.Shards = 1
		k := made(t, c, 1, "begin 1, lock 1 1X")
		net(t, k, "0>1 lock 1:1.1X")
		tells(t, k, 1, "")
		does(k, "deliver 0")
		tells(t, k, 1, "states 1=Active; leases 1; book 1; held 1:1X; log 1:1.1X")
		net(t, k, "1>0 granted 1:1.1X")
		traced(t, k, "began 1 client 1, asked 1 1X")
	})
}

// P21.1

// isMade checks what New answers; OK is no error.
func isMade(t *testing.T, c api.Config, clients int, want api.Errno) {
	t.Helper()
	k, err := cluster.New(c, clients)
	if (k != nil) != (want == api.OK) || want == api.OK && err != nil || want != api.OK && !check.Plain(err, want) {
		t.Errorf("New(%+v, %d) = %v, %v, want %v", c, clients, k, err, want)
	}
	if k != nil {
		has(t, k, cluster.View{Shards: make([]shard.View, c.Shards)})
	}
}

func TestNew(t *testing.T) {
	check.Beginnings(func(c api.Config, clients int, want api.Errno) { isMade(t, c, clients, want) })
}

func TestThereAreAsManyClients(t *testing.T) {
	check.Both(func(c api.Config) {
		for many := 1; many <= 8; many++ {
			k := made(t, c, many)
			for client := 1; client <= 8; client++ {
				k.Do(script.Entry{Kind: script.Begin, Client: client})
				if last := k.View().Coord.Last; last != min(client, many) {
					t.Errorf("of %d clients %d began %d", many, client, last)
				}
			}
		}
	})
}

// Each of a config's numbers is that of the node, or of the net, of which it is.

func TestShardsOfAConfig(t *testing.T) {
	c := check.Roomy(false)
	for shards, want := range map[int]string{1: "0>1", 2: "0>2", 3: "0>1", 7: "0>3", 64: "0>10"} {
		c.Shards = shards
		net(t, made(t, c, 1, "begin 1, lock 1 10X"), want+" lock 10:1.1X")
	}
	c.Shards = 64
	k := made(t, c, 8)
	for table := 1; table <= 64; table++ { // each shard has its number
		does(k, "begin 1, lock 1 "+check.Res(api.Res{Table: table})+"X, deliver 0")
		net(t, k, check.Step(table, 0)+">0 granted "+check.Step(table, 0)+":"+check.Step(table, 1)+"X")
		does(k, "drop 0, abort 1, drop 0")
	}
}

func TestProbeOfAConfig(t *testing.T) {
	check.Both(func(c api.Config) {
		k := made(t, c, 2, "begin 1, begin 2, lock 2 3X, deliver 0, deliver 0, lock 1 3X, deliver 0")
		net(t, k, map[bool]string{false: "3>0 wound 2 by 1", true: "3>0 probe 1.1 > 2"}[c.Probe])
	})
}

func TestLeaseOfAConfig(t *testing.T) {
	check.Both(func(c api.Config) {
		for lease := 1; lease <= 4; lease++ {
			c.Lease = lease
			k := made(t, c, 1, "begin 1, lock 1 3X, deliver 0, deliver 0, crash 1")
			for range lease - 1 {
				sends(t, k, "tick", "", 0)
			}
			sends(t, k, "tick", "0>3 decide 1 0, 3>0 expired 1", 0)
		}
	})
}

func TestResendOfAConfig(t *testing.T) {
	check.Both(func(c api.Config) {
		for resend := 1; resend <= 4; resend++ {
			c.Resend = resend
			k := made(t, c, 1, "begin 1, lock 1 3X, drop 0")
			for range resend - 1 {
				sends(t, k, "tick", "", 0)
			}
			sends(t, k, "tick", "0>3 lock 3:1.1X, 0>3 renew 1", 0)
		}
	})
}

func TestSlotsOfAConfig(t *testing.T) {
	check.Both(func(c api.Config) {
		for slots := 1; slots <= 4; slots++ {
			c.Slots = slots
			k := made(t, c, 1, "begin 1")
			for n := 1; n <= slots; n++ {
				does(k, "lock 1 "+check.Step(1+4*n, 0)+"X, deliver 0, deliver 0")
			}
			does(k, "lock 1 1X")
			sends(t, k, "deliver 0", "1>0 refused "+check.Step(1, slots+1)+" 6", 0)
		}
	})
}

func TestQueueOfAConfig(t *testing.T) {
	check.Both(func(c api.Config) {
		for queue := 1; queue <= 4; queue++ {
			c.Queue = queue
			k := made(t, c, 8, "begin 1, lock 1 3X")
			k.Calm(2)
			for client := 2; client <= queue+1; client++ {
				does(k, "begin "+check.Step(client, 0)+", lock "+check.Step(client, 0)+" 3S")
				k.Calm(20) // till no probe is on its way
			}
			does(k, "begin 8, lock 8 3S")
			sends(t, k, "deliver 0", "3>0 refused "+check.Step(queue+2, 1)+" 7", 0)
		}
	})
}

func TestFlightOfAConfig(t *testing.T) {
	check.Both(func(c api.Config) {
		for _, flight := range []int{1, 2, 3, 100, 65535, 65536} {
			c.Flight = flight
			k := made(t, c, 1, "begin 1, lock 1 3X")
			for n := 1; n < flight; n++ {
				k.Do(script.Entry{Kind: script.Twice})
			}
			if v := k.View(); len(v.Net) != flight || v.Lost != 0 {
				t.Errorf("of %d are %d on their way, %d are lost", flight, len(v.Net), v.Lost)
			}
			sends(t, k, "abort 1", "", 1)
			nothing(t, k, "twice 0")
			sends(t, k, "drop 0", "", 0)
			if flight > 1 {
				sends(t, k, "twice 0", "0>3 lock 3:1.1X", 0)
			}
		}
	})
}

// P21.2: Do

func TestTick(t *testing.T) {
	check.Both(func(c api.Config) {
		c.Lease, c.Resend = 2, 2
		k := made(t, c, 2, "begin 1, begin 2, lock 2 2X, deliver 0, deliver 0, lock 1 4X, deliver 0, deliver 0, lock 2 1S, deliver 0, deliver 0, lock 1 2S, twice 0")
		sends(t, k, "tick", "", 0)
		sends(t, k, "tick", "0>2 lock 2:1.2S, 0>2 renew 1, 0>4 renew 1, 0>1 renew 2, 0>2 renew 2, 1>0 expired 2, 2>0 expired 2, 4>0 expired 1", 0)
		sends(t, k, "tick", "", 0)
		v := k.View()
		if v.Coord.Time != 3 {
			t.Errorf("the coordinator's time is %d", v.Coord.Time)
		}
		for i, s := range v.Shards {
			if s.Time != 3 {
				t.Errorf("shard %d's time is %d", i+1, s.Time)
			}
		}
	})
}

func TestTickByWhichTheNetIsFull(t *testing.T) {
	want := []string{"0>1 renew 1", "0>2 renew 1", "0>4 renew 1", "1>0 expired 1", "2>0 expired 1", "4>0 expired 1"}
	check.Both(func(c api.Config) {
		c.Lease, c.Resend = 1, 1
		for room := 0; room <= 7; room++ {
			c.Flight = 1 + room
			k := made(t, c, 2, "begin 1, lock 1 4X, deliver 0, deliver 0, lock 1 2X, deliver 0, deliver 0, lock 1 1X, deliver 0, deliver 0, begin 2, lock 2 3X")
			sends(t, k, "tick", strings.Join(slices.Insert(slices.Clone(want), 3, "0>3 lock 3:2.1X", "0>3 renew 2")[:min(room, 8)], ", "), 8-room)
		}
	})
}

func TestBegin(t *testing.T) {
	check.Both(func(c api.Config) {
		k := made(t, c, 3)
		for i, client := range []string{"2", "1", "3"} {
			sends(t, k, "begin "+client, "", 0)
			traced(t, k, "began "+check.Step(i+1, 0)+" client "+client)
		}
	})
}

func TestLock(t *testing.T) {
	check.Both(func(c api.Config) {
		k := made(t, c, 4, "begin 3, begin 1")
		sends(t, k, "lock 1 3.14X", "0>3 lock 3.14:2.1X", 0)
		traced(t, k, "asked 2 3.14X")
		sends(t, k, "lock 3 250IS", "0>2 lock 250:1.1IS", 0)
		traced(t, k, "asked 2 3.14X, asked 1 250IS")
	})
}

func TestCommitAndAbort(t *testing.T) {
	check.Both(func(c api.Config) {
		k := made(t, c, 2, "begin 1, lock 1 3X, deliver 0, deliver 0, lock 1 2X, deliver 0, deliver 0, begin 2")
		sends(t, k, "commit 1", "0>2 prepare 1, 0>3 prepare 1", 0)
		traced(t, k, "finish 1")
		sends(t, k, "commit 2", "", 0)
		traced(t, k, "committed 2")
		k = made(t, c, 2, "begin 1, lock 1 3X, deliver 0, deliver 0, lock 1 2X, begin 2")
		sends(t, k, "abort 1", "0>2 decide 1 0, 0>3 decide 1 0", 0)
		traced(t, k, "aborted 1 1")
		sends(t, k, "abort 2", "", 0)
		traced(t, k, "aborted 2 1")
	})
}

func TestCrash(t *testing.T) {
	check.Both(func(c api.Config) {
		c.Lease = 3
		k := made(t, c, 2, "begin 2, lock 2 3X, deliver 0, deliver 0, tick")
		sends(t, k, "crash 2", "", 0)
		traced(t, k, "crashed client 2")
		does(k, "tick, tick")
		traced(t, k, "crashed client 2")
		sends(t, k, "tick", "0>3 decide 1 0", 0)
		traced(t, k, "crashed client 2, aborted 1 5")
	})
}

func TestWhatAClientMayNot(t *testing.T) {
	check.Both(func(c api.Config) {
		for ahead, all := range map[string][]string{
			"":                            {"begin 4", "begin 8", "lock 1 3X", "lock 4 3X", "commit 1", "commit 4", "abort 1", "abort 4", "crash 4", "crash 8"},
			"begin 1":                     {"begin 1", "lock 2 3X", "commit 2", "abort 2"},
			"begin 1, lock 1 3X":          {"lock 1 3X", "lock 1 4S", "commit 1", "begin 1"},
			"begin 1, lock 1 3X, abort 1": {"lock 1 3X", "commit 1", "abort 1"},
			"begin 1, lock 1 3X, deliver 0, deliver 0, commit 1": {"lock 1 3X", "commit 1", "abort 1", "begin 1"},
			"begin 1, lock 1 3X, crash 1":                        {"begin 1", "lock 1 3X", "commit 1", "abort 1", "crash 1"},
			"crash 1":                                            {"begin 1", "lock 1 3X", "commit 1", "abort 1", "crash 1"},
		} {
			k := made(t, c, 3, ahead)
			for _, text := range all {
				nothing(t, k, text)
			}
		}
	})
}

// three is a cluster with three messages on their way: to shard 3, to shard 2, and to the coordinator.
func three(t *testing.T, c api.Config) *cluster.Cluster {
	t.Helper()
	k := made(t, c, 3, "begin 1, begin 2, begin 3, lock 3 1S, lock 1 3X, lock 2 2X, deliver 0")
	net(t, k, "0>3 lock 3:1.1X, 0>2 lock 2:2.1X, 1>0 granted 1:3.1S")
	return k
}

func TestDeliverOfEachPlace(t *testing.T) {
	check.Both(func(c api.Config) {
		for pick := range 50 {
			for _, n := range []int{pick, 16777215 - pick} {
				k, e := three(t, c), script.Entry{Kind: script.Deliver, Pick: n}
				sends(t, k, told([]script.Entry{e}), []string{"3>0 granted 3:1.1X", "2>0 granted 2:2.1X", ""}[n%3], 0)
				for i, want := range []string{"states 1=Active; leases 1; book 1; held 3:1X; log 3:1.1X", "states 2=Active; leases 2; book 2; held 2:2X; log 2:2.1X"} {
					if i != n%3 {
						want = ""
					}
					tells(t, k, 3-i, want)
				}
				traced(t, k, []string{"asked 2 2X", "asked 2 2X", "asked 2 2X, granted 3 1S"}[n%3])
			}
		}
	})
}

func TestDropOfEachPlace(t *testing.T) {
	check.Both(func(c api.Config) {
		for n := range 10 {
			k := three(t, c)
			before := k.View()
			sends(t, k, "drop "+strconv.Itoa(n), "", 0)
			before.Net = slices.Delete(before.Net, n%3, n%3+1)
			has(t, k, before)
		}
	})
}

func TestTwiceOfEachPlace(t *testing.T) {
	check.Both(func(c api.Config) {
		for n := range 10 {
			k := three(t, c)
			before := k.View()
			sends(t, k, "twice "+strconv.Itoa(n), onWay(before.Net[n%3:n%3+1]), 0)
			before.Net = append(before.Net, before.Net[n%3])
			has(t, k, before)
		}
	})
}

func TestNoneIsOnItsWay(t *testing.T) {
	check.Both(func(c api.Config) {
		k := made(t, c, 2, "begin 1, lock 1 3X, deliver 0, deliver 0")
		for _, text := range []string{"deliver 0", "deliver 1", "deliver 16777215", "drop 0", "drop 7", "twice 0", "twice 7"} {
			nothing(t, k, text)
		}
	})
}

// two is a cluster whose client 1 has X of 3, for which 2 and 3 wait, with that decision on its way.
func two(t *testing.T, c api.Config) *cluster.Cluster {
	t.Helper()
	k := made(t, c, 3, "begin 1, lock 1 3X, deliver 0, deliver 0, begin 2, lock 2 3S, deliver 0, begin 3, lock 3 3S")
	k.Calm(20) // till no probe is on its way
	does(k, "abort 1")
	net(t, k, "0>3 decide 1 0")
	return k
}

func TestWhatComesSendsSeveral(t *testing.T) {
	check.Both(func(c api.Config) {
		k := two(t, c)
		sends(t, k, "deliver 0", "3>0 ack 1, 3>0 granted 3:2.1S, 3>0 granted 3:3.1S", 0)
		sends(t, k, "deliver 1", "", 0)
		traced(t, k, "aborted 1 1, granted 2 3S")
		sends(t, k, "deliver 1", "", 0)
		traced(t, k, "granted 3 3S")
	})
}

func TestWhatTheNetRefusesIsLost(t *testing.T) {
	sent := []string{"0>1 prepare 1", "0>2 prepare 1", "0>3 prepare 1", "0>4 prepare 1"}
	check.Both(func(c api.Config) {
		for flight := 1; flight <= 6; flight++ {
			c.Flight = flight
			k := made(t, c, 2, "begin 1, lock 1 4X, deliver 0, deliver 0, lock 1 2X, deliver 0, deliver 0, lock 1 3X, deliver 0, deliver 0, lock 1 1X, deliver 0, deliver 0")
			sends(t, k, "commit 1", strings.Join(sent[:min(4, flight)], ", "), max(0, 4-flight))
			traced(t, k, "finish 1") // whatever is lost
		}
		c.Flight = 2
		k := made(t, c, 4, "begin 1, lock 1 3X, begin 2, lock 2 3X, begin 3, begin 4")
		sends(t, k, "lock 3 4X", "", 1)
		sends(t, k, "lock 4 2X", "", 1)
		traced(t, k, "asked 3 4X, asked 4 2X")
		nothing(t, k, "lock 3 4X") // it is open
		nothing(t, k, "twice 0")   // which isn't lost, as it wasn't sent
		sends(t, k, "drop 0", "", 0)
		sends(t, k, "abort 4", "0>2 decide 4 0", 0)
		sends(t, k, "abort 3", "", 1)
	})
}

func TestWhatIsDeliveredLeavesItsPlace(t *testing.T) {
	check.Both(func(c api.Config) {
		c.Flight = 1
		k := made(t, c, 2, "begin 1, lock 1 3X")
		sends(t, k, "deliver 0", "3>0 granted 3:1.1X", 0)
		sends(t, k, "deliver 0", "", 0)
		does(k, "begin 2, lock 2 3S, deliver 0, drop 0, abort 1")
		sends(t, k, "deliver 0", "3>0 ack 1", 1)
	})
}

// wrong are entries that are not Ok, each by one thing alone.
func wrong() []script.Entry {
	var all []script.Entry
	for _, e := range entries("skip, tick, begin 2, lock 1 3X, commit 1, abort 1, crash 1, deliver 1, drop 1, twice 1") {
		for _, n := range slices.Concat(check.FarFrom(0, 0), check.FarFrom(1, 8), check.FarFrom(0, 250), check.FarFrom(0, 16777215), []int{0, 1, 3, 7}) {
			for _, number := range []*int{&e.Kind, &e.Client, &e.At.Table, &e.At.Row, (*int)(&e.Mode), &e.Pick} {
				was := *number
				if *number = n; !script.Ok(e) {
					all = append(all, e)
				}
				*number = was
			}
		}
	}
	return all
}

func TestWhatIsNotOk(t *testing.T) {
	all := wrong()
	if len(all) < 1000 {
		t.Errorf("there are %d", len(all))
	}
	check.Both(func(c api.Config) {
		k := made(t, c, 8, "begin 1, lock 1 3X, deliver 0, deliver 0, begin 3, lock 3 3X, begin 4, lock 4 4X")
		before := k.View()
		for _, e := range all {
			if k.Do(e); !same(k.View(), before) {
				t.Fatalf("%+v: it has\n%s, want\n%s", e, of(k), text(before))
			}
		}
		nothing(t, k, "skip")
		for _, e := range entries("tick, begin 2, lock 1 5X, commit 1, crash 1, deliver 1, drop 1, twice 1") {
			before := of(k)
			if k.Do(e); of(k) == before {
				t.Errorf("%+v does nothing, of %s", e, before)
			}
			k = made(t, c, 8, "begin 1, lock 1 3X, deliver 0, deliver 0, begin 3, lock 3 3X, begin 4, lock 4 4X")
		}
	})
}
