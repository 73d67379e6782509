package txn_test

import (
	"math"
	"slices"
	"testing"

	"catchbolt/api"
	"catchbolt/check"
	"catchbolt/txn"
)

// P17.3

func TestAgainOfAnActiveOne(t *testing.T) {
	open := []move{ask(2, "3.14", api.X)}
	again(t, made(t), "", "")
	again(t, made(t, open), "2: lock 3.14:7.1X, 2: renew 7", "2: lock 3.14:7.1X")
	again(t, made(t, open, []move{answer(refused(2, 1, 9))}), "2: renew 7", "")
	again(t, made(t, open, []move{answer(granted(2, 1, "3.14", api.X))}), "2: renew 7", "")
	again(t, made(t, three()), to("renew 7", 2, 5, 9), "")
	again(t, made(t, three(), open), "2: lock 3.14:7.4X, "+to("renew 7", 2, 5, 9), "2: lock 3.14:7.4X")
	again(t, made(t, three(), []move{ask(64, "250", api.IS)}), "64: lock 250:7.4IS, "+to("renew 7", 2, 5, 9, 64), "64: lock 250:7.4IS")
	again(t, made(t, three(), []move{ask(1, "1.1", api.S)}), "1: lock 1.1:7.4S, "+to("renew 7", 1, 2, 5, 9), "1: lock 1.1:7.4S")
}

func TestAgainOfEachRequest(t *testing.T) {
	for _, tx := range check.Numbers() {
		for _, shard := range shards() {
			x := more(t, begun(t, tx), ask(shard, "250.1", check.Modes()[shard%4]))
			_, sent, _ := txn.Ask(begun(t, tx), shard, x.At, x.Mode)
			if got := txn.Again(x, false); !slices.Equal(got, sent) {
				t.Errorf("Again(%s) = %s, want what was sent", check.Txn(x), check.SentTo(got))
			}
			renew := api.Msg{Kind: api.KRenew, To: shard, Tx: tx}
			if got := txn.Again(x, true); !slices.Equal(got, append(slices.Clone(sent), renew)) {
				t.Errorf("Again(%s) = %s, want what was sent, and a renewal", check.Txn(x), check.SentTo(got))
			}
		}
	}
}

func TestAgainOfAPreparingOne(t *testing.T) {
	for _, order := range orders([]int{2, 5, 9}) {
		for many := range 3 {
			x := made(t, three(), []move{finish()}, yes(order[:many]...))
			want := to("prepare 7", touchedBy(order[many:])...)
			again(t, x, want, want) // whoever is alive
		}
	}
	x := made(t, touching(64, 1), []move{finish()})
	again(t, x, "1: prepare 7, 64: prepare 7", "1: prepare 7, 64: prepare 7")
}

func TestAgainOfADecidedOne(t *testing.T) {
	for _, order := range orders([]int{2, 5, 9}) {
		for many := range 4 {
			left := touchedBy(order[many:])
			x := made(t, three(), []move{finish()}, yes(2, 5, 9), heard(order[:many]...))
			again(t, x, to("decide 7 1", left...), to("decide 7 1", left...))
			for reason := 1; reason <= 5; reason++ {
				x = made(t, three(), []move{abort(reason)}, heard(order[:many]...))
				again(t, x, to("decide 7 0", left...), to("decide 7 0", left...))
			}
			x = made(t, three(), []move{ask(2, "3", api.S), abort(txn.ByClient)}, heard(order[:many]...)) // nothing is open then
			again(t, x, to("decide 7 0", left...), to("decide 7 0", left...))
		}
	}
}

func TestAgainOfOneThatSomeVotedForAndThatIsAborted(t *testing.T) {
	for _, d := range []move{vote(voted(2, 0)), abort(txn.ByLease)} {
		x := made(t, three(), []move{finish()}, yes(9, 5), []move{d})
		again(t, x, to("decide 7 0", 2, 5, 9), to("decide 7 0", 2, 5, 9)) // votes are no acknowledgements
		x = more(t, x, heard(5)...)
		again(t, x, to("decide 7 0", 2, 9), to("decide 7 0", 2, 9))
	}
}

func TestAgainTellsTheSameEachTime(t *testing.T) {
	for _, x := range some(t) {
		for _, alive := range []bool{false, true} {
			first := txn.Again(x, alive)
			want := check.SentTo(first)
			check.Spoil(first, api.Msg{Kind: -1})
			if got := check.SentTo(txn.Again(x, alive)); got != want {
				t.Errorf("Again(%s, %v) = %s, want %s", check.Txn(x), alive, got, want)
			}
		}
	}
}

// byHand are transactions made by hand: of each state, and of numbers that are none, by each of which shards are touched and which acknowledged.
func byHand(f func(x txn.Txn, acknowledged bool)) {
	lists := [][]int{nil, {}, {2}, {5}, {2, 2}, {2, 5}, {5, 2}, {9, 2, 5}, {5, 5, 2, 9}, {0}, {-1, math.MaxInt64}, {math.MaxInt64, 2, -1, 5}, {math.MinInt64}, {64, 65}, check.UpTo(-3, 70)}
	states := append(check.UpTo(-20, 20), math.MinInt64, math.MinInt64+3, -1<<32+3, -253, -252, 255, 256, 259, 260, 1<<32+3, 1<<32+4, math.MaxInt64)
	for _, state := range states {
		for _, touched := range lists {
			for _, acks := range lists {
				all := true
				for _, shard := range touched {
					all = all && slices.Contains(acks, shard)
				}
				f(txn.Txn{Tx: 7, State: state, Touched: touched, Acks: acks}, all)
				f(txn.Txn{Tx: -7, State: state, Reason: 9, Seq: -1, Open: true, Shard: 70, Mode: 9, Touched: touched, Votes: []int{2, 5}, Acks: acks}, all)
				f(txn.Txn{State: state, Touched: touched, Votes: touched, Acks: acks, Got: []api.Grant{{}}}, all)
			}
		}
	}
}

func TestDecidedAndOverOfAny(t *testing.T) {
	many := 0
	byHand(func(x txn.Txn, acknowledged bool) {
		decided := x.State == 3 || x.State == 4
		in := roomy(x)
		before := roomy(whole(in))
		is(t, in, decided, decided && acknowledged)
		if !check.SameTxn(whole(in), before) {
			t.Errorf("Decided or Over changes what was handed in, %s", check.Txn(x))
		}
		if decided && acknowledged {
			many++
		}
		check.Stop(t)
	})
	if many < 100 {
		t.Errorf("%d are over", many)
	}
}

func TestDecidedAndOverOfThoseThatCameOfTheCalls(t *testing.T) {
	for _, x := range some(t) {
		is(t, x, x.State == txn.Committed || x.State == txn.Aborted, (x.State == txn.Committed || x.State == txn.Aborted) && slices.Equal(x.Touched, x.Acks))
	}
}

// Rule 1: of those made by hand nothing else is said but that each call ends, and none panics.
func TestNoCallPanics(t *testing.T) {
	msgs := slices.Concat(check.Messages(), check.WrongMessages()[:20])
	byHand(func(x txn.Txn, _ bool) {
		for _, d := range []move{ask(2, "3", api.S), {}, {kind: asks, shard: math.MinInt64, mode: math.MaxInt64}, finish(), abort(1), abort(0), abort(math.MaxInt64), vote(voted(2, 1)), vote(voted(5, 0)), ack(acked(2)), answer(refused(70, 1, 9))} {
			told(x, d)
		}
		txn.Again(x, true)
		txn.Again(x, false)
	})
	for _, x := range append(some(t), txn.Txn{}) {
		for _, m := range msgs {
			told(x, answer(m))
			told(x, vote(m))
			told(x, ack(m))
		}
	}
}

// The document's example.

func TestExample(t *testing.T) {
	x, err := txn.New(5)
	if err != nil {
		t.Fatal(err)
	}
	x = does(t, x, ask(2, "3.1", api.X), "2: lock 3.1:5.1X", "5 Active; request 1 of 2: 3.1X, open; touched 2")
	x = does(t, x, answer(of(5, granted(2, 1, "3.1", api.X))), "", "5 Active; request 1 of 2: 3.1X; touched 2; got 3.1:5.1X")
	x = does(t, x, finish(), "2: prepare 5", "5 Preparing; request 1 of 2: 3.1X; touched 2; got 3.1:5.1X")
	x = does(t, x, vote(of(5, voted(2, 1))), "2: decide 5 1", "5 Committed; request 1 of 2: 3.1X; touched 2; votes 2; got 3.1:5.1X")
	is(t, x, true, false)
	x = does(t, x, ack(of(5, acked(2))), "", "5 Committed; request 1 of 2: 3.1X; touched 2; votes 2; acks 2; got 3.1:5.1X")
	is(t, x, true, true)
}

// What was told and what was handed in.

func TestEachCallTellsItsOwn(t *testing.T) {
	moves := slices.Concat([]move{ask(2, "3.14", api.X), ask(1, "1", api.S), ask(64, "250", api.IX), finish(), abort(1), abort(5)}, yes(2, 5, 9), heard(2, 5, 9),
		[]move{answer(granted(2, 4, "3.14", api.X)), answer(refused(2, 4, 9)), answer(granted(5, 2, "5", api.S)), vote(voted(5, 0))})
	for _, x := range some(t) {
		x = roomy(x)
		for _, first := range moves {
			for _, then := range moves {
				a, sentA, errA := told(x, first)
				wantA, wantSent := roomy(a), slices.Clone(sentA)
				b, sentB, errB := told(x, then)
				wantB, _, _ := told(roomy(x), then)
				if !check.SameTxn(a, wantA) || !slices.Equal(sentA, wantSent) || !check.SameTxn(b, wantB) {
					t.Errorf("%+v and %+v of %s: %s and %s", first, then, check.Txn(x), check.Txn(a), check.Txn(b))
				}
				check.SpoilTxn(b)
				check.Spoil(sentB, api.Msg{Kind: -1})
				if !check.SameTxn(a, wantA) || !slices.Equal(sentA, wantSent) {
					t.Errorf("%+v of %s tells %s, %s, behind %+v that was changed; %v, %v", first, check.Txn(x), check.Txn(a), check.SentTo(sentA), then, errA, errB)
				}
				check.Stop(t)
			}
		}
	}
}

func TestWhatCameOfOneStaysWhenThatOneIsChanged(t *testing.T) {
	x := made(t, three())
	a, b := more(t, x, ask(64, "3", api.X)), more(t, x, ask(1, "1", api.S))
	c := more(t, a, answer(granted(64, 4, "3", api.X)), finish())
	check.SpoilTxn(x)
	check.SpoilTxn(a)
	if got, want := check.Txn(b), "7 Active; request 4 of 1: 1S, open; touched 1 2 5 9"+threeGot; got != want {
		t.Errorf("%s, want %s", got, want)
	}
	if got, want := check.Txn(c), "7 Preparing; request 4 of 64: 3X; touched 2 5 9 64"+threeGot+" 3:7.4X"; got != want {
		t.Errorf("%s, want %s", got, want)
	}
	check.SpoilTxn(b)
	again(t, c, to("prepare 7", 2, 5, 9, 64), to("prepare 7", 2, 5, 9, 64))
}
