package coord_test

import (
	"slices"
	"testing"

	"catchbolt/api"
	"catchbolt/check"
	"catchbolt/coord"
	"catchbolt/txn"
)

// P18.3: ticks.

func TestTickOfNothing(t *testing.T) {
	check.Both(func(c api.Config) {
		c.Lease, c.Resend = 1, 1
		o := made(t, c, 8)
		quiet(t, o, 100)
		has(t, o, coord.View{Time: 100})
		more(t, o, begin(1), begin(2), crash(3))
		quiet(t, o, 100) // they touched none
	})
}

// Leases.

func TestTickOfADeadClient(t *testing.T) {
	check.Both(func(c api.Config) {
		for _, q := range []struct{ lease, since int }{{1, 0}, {1, 7}, {2, 0}, {2, 1}, {3, 5}, {20, 0}, {20, 50}, {999, 1}, {1000, 0}, {1000, 1000}} {
			c.Lease = q.lease
			o := made(t, c, 2, []move{begin(1), begin(2)}, locked(2, 2, 3, 1))
			for range q.since {
				o.Tick()
			}
			more(t, o, crash(2))
			for n := 1; n < q.lease; n++ {
				if (q.since+n)%1000 != 0 { // then all is sent again
					does(t, o, tick(), "", "")
				} else {
					more(t, o, tick())
				}
			}
			sent := to("decide 2 0", 1, 3)
			if (q.since+q.lease)%1000 == 0 {
				sent += ", " + sent // they aren't acknowledged yet
			}
			does(t, o, tick(), sent, "aborted 2 5")
			is(t, o, 1, "1 Active")
			is(t, o, 2, "2 Aborted 5; request 2 of 1: 1X; touched 1 3; got 3:2.1X 1:2.2X")
			more(t, o, acked(1, 2), acked(3, 2))
			quiet(t, o, 50)
			mayNot(t, o, begin(2), api.ErrState)
			check.Stop(t)
		}
	})
}

func TestTickOfADeadClientsOneInEachState(t *testing.T) {
	check.Both(func(c api.Config) {
		c.Lease = 3
		active, preparing, over := inState(1, 1)
		for i, l := range slices.Concat(active, preparing, over) {
			o := made(t, c, 1, []move{begin(1)}, l, []move{crash(1)})
			quiet(t, o, 2)
			switch {
			case i >= len(active): // one that prepares waits for its votes
				before := o.View().Txns
				quiet(t, o, 50)
				if !slices.EqualFunc(o.View().Txns, before, check.SameTxn) {
					t.Errorf("it has %s", of(o))
				}
			case i == 0:
				does(t, o, tick(), "", "aborted 1 5")
			default:
				does(t, o, tick(), "3: decide 1 0", "aborted 1 5")
			}
			quiet(t, o, 50)
		}
		o := made(t, c, 1, []move{begin(1)}, locked(1, 1, 3), []move{commit(1), crash(1)})
		quiet(t, o, 10)
		does(t, o, voted(3, 1, 1), "3: decide 1 1", "committed 1")
		quiet(t, o, 10)
	})
}

func TestTickOfSeveralDeadClients(t *testing.T) {
	check.Both(func(c api.Config) {
		c.Lease = 4
		o := made(t, c, 8, []move{begin(5), begin(3), begin(8), begin(1), begin(2), lock(5, "1", api.X), lock(3, "2", api.X), lock(8, "3", api.X), lock(1, "4", api.X), lock(2, "4", api.S)})
		more(t, o, crash(8), crash(2), crash(7), tick(), crash(1), crash(5), tick(), tick())
		does(t, o, tick(), "3: decide 3 0, 4: decide 5 0", "aborted 3 5, aborted 5 5") // rising, whoever crashed first
		does(t, o, tick(), "1: decide 1 0, 4: decide 4 0", "aborted 1 5, aborted 4 5")
		quiet(t, o, 50)
		is(t, o, 2, "2 Active; request 1 of 2: 2X, open; touched 2")
	})
}

func TestEachClientsTimeIsItsOwn(t *testing.T) {
	c := check.Roomy(false)
	c.Lease = 10
	o := made(t, c, 8)
	for client := 1; client <= 8; client++ {
		more(t, o, begin(client))
	}
	for client := 8; client >= 1; client-- {
		more(t, o, crash(client), tick())
	}
	quiet(t, o, 1)
	for tx := 8; tx >= 1; tx-- {
		does(t, o, tick(), "", "aborted "+check.Step(tx, 0)+" 5")
	}
	quiet(t, o, 20)
}

// What is sent again.

func TestTickAtEachMultipleOfResend(t *testing.T) {
	check.Both(func(c api.Config) {
		for _, c.Resend = range []int{1, 2, 3, 7, 20, 999, 1000} {
			o := made(t, c, 1, []move{begin(1), lock(1, "3", api.X)})
			for time := 1; time <= 3*c.Resend; time++ {
				want := ""
				if time%c.Resend == 0 {
					want = "3: lock 3:1.1X, 3: renew 1"
				}
				if sent := check.SentTo(o.Tick()); sent != want {
					t.Errorf("at %d, of %d, a tick sends %s, want %s", time, c.Resend, sent, want)
				}
			}
			check.Stop(t)
		}
	})
}

func TestTickSendsAgainOfEachState(t *testing.T) {
	check.Both(func(c api.Config) {
		c.Resend = 1
		open := append(locked(1, 1, 4, 2), lock(1, "3.14", api.S))
		end := append(locked(1, 1, 4, 2, 3), commit(1))
		for _, q := range []struct {
			ahead       []move
			alive, dead string
		}{
			{nil, "", ""},
			{[]move{lock(1, "3.14", api.S)}, "3: lock 3.14:1.1S, 3: renew 1", "3: lock 3.14:1.1S"},
			{open, "3: lock 3.14:1.3S, " + to("renew 1", 2, 3, 4), "3: lock 3.14:1.3S"},
			{append(slices.Clone(open), refused(3, 1, 3, 9)), to("renew 1", 2, 3, 4), ""},
			{locked(1, 1, 4, 2), to("renew 1", 2, 4), ""},
			{end, to("prepare 1", 2, 3, 4), to("prepare 1", 2, 3, 4)},
			{append(slices.Clone(end), yes(1, 3)...), to("prepare 1", 2, 4), to("prepare 1", 2, 4)},
			{append(slices.Clone(end), yes(1, 2, 4)...), to("prepare 1", 3), to("prepare 1", 3)},
			{append(slices.Clone(end), yes(1, 2, 4, 3)...), to("decide 1 1", 2, 3, 4), to("decide 1 1", 2, 3, 4)},
			{slices.Concat(end, yes(1, 2, 4, 3), heard(1, 3)), to("decide 1 1", 2, 4), to("decide 1 1", 2, 4)},
			{slices.Concat(end, yes(1, 2, 4, 3), heard(1, 3, 4, 2)), "", ""},
			{append(slices.Clone(end), voted(2, 1, 0)), to("decide 1 0", 2, 3, 4), to("decide 1 0", 2, 3, 4)},
			{append(slices.Clone(open), abort(1)), to("decide 1 0", 2, 3, 4), to("decide 1 0", 2, 3, 4)},
			{slices.Concat(open, []move{abort(1)}, heard(1, 4, 2)), to("decide 1 0", 3), to("decide 1 0", 3)},
			{slices.Concat(open, []move{abort(1)}, heard(1, 4, 2, 3)), "", ""},
			{[]move{abort(1)}, "", ""},
			{[]move{commit(1)}, "", ""},
		} {
			o := made(t, c, 1, []move{begin(1)}, q.ahead)
			for range 3 {
				does(t, o, tick(), q.alive, "")
			}
			more(t, o, crash(1))
			for range 3 {
				does(t, o, tick(), q.dead, "")
			}
			check.Stop(t)
		}
	})
}

func TestTickSendsAgainRising(t *testing.T) {
	check.Both(func(c api.Config) {
		c.Resend = 2
		o := made(t, c, 8, []move{begin(6), begin(2), begin(8), begin(1), begin(4)}, locked(6, 1, 3), []move{commit(6), lock(2, "1", api.S)}, locked(8, 3, 2), []move{abort(8), lock(1, "4", api.S), crash(1)})
		does(t, o, tick(), "", "")
		does(t, o, tick(), "3: prepare 1, 1: lock 1:2.1S, 1: renew 2, 2: decide 3 0, 4: lock 4:4.1S", "")
		more(t, o, begin(8), lock(8, "2", api.X), acked(2, 3), voted(3, 1, 1), lock(4, "1", api.X), refused(1, 2, 1, 7))
		does(t, o, tick(), "", "")
		does(t, o, tick(), "3: decide 1 1, 1: renew 2, 4: lock 4:4.1S, 1: lock 1:5.1X, 1: renew 5, 2: lock 2:6.1X, 2: renew 6", "")
		more(t, o, acked(3, 1), abort(2), acked(1, 2), abort(8), acked(2, 6), begin(6), lock(6, "3", api.S))
		does(t, o, tick(), "", "")
		does(t, o, tick(), "4: lock 4:4.1S, 1: lock 1:5.1X, 1: renew 5, 3: lock 3:7.1S, 3: renew 7", "")
	})
}

func TestTickOfLeasesAndResendAtOnce(t *testing.T) {
	check.Both(func(c api.Config) {
		c.Lease, c.Resend = 2, 2
		o := made(t, c, 3, []move{begin(1), lock(1, "1", api.S), begin(2), begin(3)}, locked(2, 2, 3, 2), locked(3, 3, 4), []move{crash(3), crash(2)})
		does(t, o, tick(), "", "")
		does(t, o, tick(), // who is lost first, then what is sent again of all, of these, too
			to("decide 2 0", 2, 3)+", 4: decide 3 0, 1: lock 1:1.1S, 1: renew 1, "+to("decide 2 0", 2, 3)+", 4: decide 3 0", "aborted 2 5, aborted 3 5")
		more(t, o, acked(4, 3), acked(2, 2))
		does(t, o, tick(), "", "")
		does(t, o, tick(), "1: lock 1:1.1S, 1: renew 1, 3: decide 2 0", "")
	})
}

// Views, and what is told.

func TestView(t *testing.T) {
	o := made(t, config(false, 5, 7), 2)
	has(t, o, coord.View{})
	more(t, o, begin(2), lock(2, "3", api.X), tick(), granted(3, 1, 1, "3", api.X), begin(1), tick(), commit(1), commit(2), voted(3, 1, 1), begin(2), acked(3, 1), crash(1))
	at := check.At("3")
	has(t, o, coord.View{
		Time: 2, Last: 3,
		Txns: []txn.Txn{
			{Tx: 1, State: 3, Seq: 1, Shard: 3, At: at, Mode: api.X, Touched: []int{3}, Votes: []int{3}, Acks: []int{3}, Got: []api.Grant{{Tx: 1, Seq: 1, At: at, Mode: api.X}}},
			{Tx: 2, State: 3}, {Tx: 3, State: 1},
		},
		Trace: []api.Event{
			{Kind: 1, Client: 2, Tx: 1}, {Kind: 2, Tx: 1, At: at, Mode: 4}, {Kind: 3, Tx: 1, At: at, Mode: 4}, {Kind: 1, Client: 1, Tx: 2}, {Kind: 6, Tx: 2},
			{Kind: 5, Tx: 1}, {Kind: 6, Tx: 1}, {Kind: 1, Client: 2, Tx: 3}, {Kind: 8, Client: 1},
		},
	})
}

func TestWhatIsToldIsNewMemory(t *testing.T) {
	check.Both(func(c api.Config) {
		c.Lease, c.Resend = 3, 1
		for _, o := range some(t, c) {
			want := of(o) // views may be of one memory, a text isn't
			if check.SpoilCoord(o.View()); of(o) != want {
				t.Errorf("it has\n%s, behind\n%s", of(o), want)
			}
			for range 5 {
				sent := o.Tick()
				told, want := check.SentTo(sent), of(o)
				if check.Spoil(sent, api.Msg{Kind: -1}); of(o) != want {
					t.Errorf("it has\n%s, behind\n%s", of(o), want)
				}
				if again := check.SentTo(o.Tick()); again != told && o.View().Time > 4 {
					t.Errorf("it sends %s, behind %s", again, told)
				}
			}
			check.Stop(t)
		}
	})
}

func TestNoTwoListsOfAViewShareAny(t *testing.T) {
	check.Both(func(c api.Config) {
		for _, o := range some(t, c) {
			v, want := o.View(), o.View()
			told := check.Coord(want)
			for i, x := range v.Txns {
				if check.SpoilTxn(x); !check.IsSpoiled(x) {
					t.Errorf("%s", check.Txn(x))
				}
				v.Txns[i] = want.Txns[i]
				if check.Coord(v) != told {
					t.Errorf("it is\n%s, want\n%s", check.Coord(v), told)
				}
			}
			check.Spoil(v.Trace, api.Event{Kind: -1})
			if check.Coord(want) != told {
				t.Errorf("it is\n%s, want\n%s", check.Coord(want), told)
			}
		}
	})
}

func TestWhatIsSentIsNewMemory(t *testing.T) {
	check.Both(func(c api.Config) {
		o := made(t, c, 2, []move{begin(1)}, locked(1, 1, 3, 2))
		for _, d := range []move{lock(1, "4", api.S), commit(1), voted(2, 1, 1), voted(3, 1, 1), voted(4, 1, 1)} {
			_, sent, err := told(o, d)
			want := of(o)
			if check.Spoil(sent, api.Msg{Kind: -1}); err != nil || of(o) != want {
				t.Errorf("%s = %v: it has\n%s, behind\n%s", d.text(), err, of(o), want)
			}
			if d.kind == locks {
				more(t, o, granted(4, 1, 3, "4", api.S))
			}
		}
		is(t, o, 1, "1 Committed; request 3 of 4: 4S; touched 2 3 4; votes 2 3 4; got 3:1.1X 2:1.2X 4:1.3S")
	})
}

func TestCoordinatorsAreApart(t *testing.T) {
	check.Both(func(c api.Config) {
		a, b := made(t, c, 2, []move{begin(1), lock(1, "3", api.X)}), made(t, c, 3, []move{begin(3)})
		before := b.View()
		more(t, a, granted(3, 1, 1, "3", api.X), commit(1), voted(3, 1, 0), crash(2), tick())
		has(t, b, before)
		more(t, b, commit(3), begin(2))
		is(t, a, 1, "1 Aborted 2; request 1 of 3: 3X; touched 3; got 3:1.1X")
	})
}
