package txn_test

import (
	"fmt"
	"slices"
	"testing"

	"catchbolt/api"
	"catchbolt/check"
	"catchbolt/txn"
)

// shards are all that there are.
func shards() []int { return check.UpTo(1, 64) }

// noShards are numbers of none.
func noShards() []int {
	return append(check.WrongLimits(), 67, 69, 2+64, 5+256, -5, 5-1<<32, 5+1<<32, 5+1<<48)
}

// P17.1

func TestNumbersOfStatesAndReasons(t *testing.T) {
	states := []int{txn.Active, txn.Preparing, txn.Committed, txn.Aborted}
	reasons := []int{txn.ByClient, txn.ByVote, txn.ByWound, txn.ByCircle, txn.ByLease}
	if !slices.Equal(states, []int{1, 2, 3, 4}) || !slices.Equal(reasons, []int{1, 2, 3, 4, 5}) {
		t.Error(states, reasons)
	}
}

func TestNewOfEachNumber(t *testing.T) {
	for _, tx := range slices.Concat(check.Numbers(), check.UpTo(1, 300), check.UpTo(1048000, 1048576)) {
		x, err := txn.New(tx)
		if want := (txn.Txn{Tx: tx, State: 1}); !check.SameTxn(x, want) || err != nil {
			t.Errorf("New(%d) = %s, %v", tx, check.Txn(x), err)
		}
		is(t, x, false, false)
		again(t, x, "", "")
	}
}

func TestNewOfOneThatMayNotBe(t *testing.T) {
	for _, tx := range slices.Concat(check.WrongNumbers(), check.UpTo(-300, 0), check.UpTo(1048577, 1049000)) {
		if x, err := txn.New(tx); !check.SameTxn(x, txn.Txn{}) || !check.Plain(err, api.ErrArg) {
			t.Errorf("New(%d) = %s, %v", tx, check.Txn(x), err)
		}
	}
}

func TestAskOfEachShard(t *testing.T) {
	for _, tx := range check.Numbers() {
		for _, shard := range shards() {
			x := does(t, begun(t, tx), ask(shard, "3.14", api.X),
				fmt.Sprintf("%d: lock 3.14:%d.1X", shard, tx),
				fmt.Sprintf("%d Active; request 1 of %d: 3.14X, open; touched %d", tx, shard, shard))
			is(t, x, false, false)
		}
	}
}

func TestAskOfEachResource(t *testing.T) {
	x := begun(t, mine)
	for table := 1; table <= 250; table++ {
		for row := 0; row <= 250; row++ {
			at, m := api.Res{Table: table, Row: row}, check.Modes()[(table+row)%4]
			one, sent, err := txn.Ask(x, 2, at, m)
			lock := api.Msg{Kind: api.KLock, To: 2, Tx: mine, Seq: 1, At: at, Mode: m}
			want := txn.Txn{Tx: mine, State: txn.Active, Seq: 1, Open: true, Shard: 2, At: at, Mode: m, Touched: []int{2}}
			if !check.SameTxn(one, want) || !slices.Equal(sent, []api.Msg{lock}) || err != nil {
				t.Errorf("Ask(2, %v, %v) = %s, %s, %v", at, m, check.Txn(one), check.SentTo(sent), err)
			}
		}
	}
}

func TestAskInEachMode(t *testing.T) {
	for _, place := range []string{"1", "250", "3.14", "250.250"} { // a row may be asked for in any mode: its shard is who refuses
		for _, m := range check.Modes() {
			x := does(t, made(t, three()), ask(4, place, m),
				fmt.Sprintf("4: lock %s:7.4%s", place, check.Mode(m)),
				fmt.Sprintf("7 Active; request 4 of 4: %s%s, open; touched 2 4 5 9; got 5:7.1S 9:7.3IX", place, check.Mode(m)))
			mayNot(t, x, ask(4, place, m), api.ErrBusy)
		}
	}
}

func TestAskOfWhatMayNotBe(t *testing.T) {
	right := ask(2, "3.14", api.X)
	for _, x := range some(t) { // in each state, and while one is open: ErrArg is the first
		for _, shard := range noShards() {
			d := right
			d.shard = shard
			mayNot(t, x, d, api.ErrArg)
		}
		for _, r := range check.WrongResources() {
			d := right
			d.at = r
			mayNot(t, x, d, api.ErrArg)
		}
		for _, m := range check.WrongModes() {
			d := right
			d.mode = m
			mayNot(t, x, d, api.ErrArg)
		}
	}
}

func TestAskOfSeveralThatMayNotBe(t *testing.T) {
	for _, x := range some(t) {
		for i, shard := range noShards() {
			r, m := check.WrongResources()[i], check.WrongModes()[i%len(check.WrongModes())]
			for _, d := range []move{
				{shard: shard, at: r, mode: m}, {shard: 2, at: r, mode: m},
				{shard: shard, at: check.At("3"), mode: m}, {shard: shard, at: r, mode: api.S},
			} {
				mayNot(t, x, d, api.ErrArg)
			}
		}
	}
}

func TestAskInEachState(t *testing.T) {
	for _, x := range some(t) {
		for _, d := range []move{ask(1, "1", api.IS), ask(5, "5", api.S), ask(64, "250.250", api.X)} {
			switch {
			case x.State != txn.Active:
				mayNot(t, x, d, api.ErrState)
			case x.Open:
				mayNot(t, x, d, api.ErrBusy)
			default:
				if one := more(t, x, d); one.Seq != x.Seq+1 || !one.Open || one.Shard != d.shard {
					t.Errorf("%+v of %s makes %s", d, check.Txn(x), check.Txn(one))
				}
			}
		}
	}
}

// last is one whose request has the last number, by that many requests, of which all but some were refused; the last one is open.
func last(t *testing.T) txn.Txn {
	t.Helper()
	x, d := begun(t, mine), ask(2, "3.14", api.X)
	for seq := 1; seq < 1048576; seq++ {
		m := refused(2, seq, 9)
		if seq%100000 == 1 {
			m = granted(2, seq, "3.14", api.X)
		}
		x = more(t, x, d, answer(m))
		if len(x.Touched) > 1 || len(x.Got) > 11 {
			t.Fatalf("%d requests make %d touched shards, %d locks", seq, len(x.Touched), len(x.Got))
		}
	}
	return does(t, x, d, "2: lock 3.14:7.1048576X", "7 Active; request 1048576 of 2: 3.14X, open; touched 2; got "+check.Granted(x.Got))
}

func TestAskBehindTheLastNumber(t *testing.T) {
	open := last(t)
	if n := len(open.Got); n != 11 || open.Got[10].Seq != 1000001 {
		t.Errorf("it got %s", check.Granted(open.Got))
	}
	again(t, open, "2: lock 3.14:7.1048576X, 2: renew 7", "2: lock 3.14:7.1048576X")
	wrong := move{shard: 65, at: check.At("3"), mode: api.S}
	mayNot(t, open, wrong, api.ErrArg)
	mayNot(t, open, ask(2, "3", api.S), api.ErrBusy) // ahead of ErrFull
	for _, m := range []api.Msg{granted(2, 1048576, "3.14", api.X), refused(2, 1048576, 6)} {
		x := more(t, open, answer(m))
		mayNot(t, x, wrong, api.ErrArg) // ahead of ErrFull, too
		for _, shard := range shards() {
			mayNot(t, x, ask(shard, "3", api.S), api.ErrFull)
		}
		mayNot(t, more(t, x, finish()), ask(2, "3", api.S), api.ErrState) // likewise
		mayNot(t, more(t, x, abort(txn.ByClient)), ask(2, "3", api.S), api.ErrState)
		mayNot(t, more(t, x, finish(), vote(voted(2, 1))), ask(2, "3", api.S), api.ErrState)
	}
}

func TestAskNearTheLastNumber(t *testing.T) {
	for seq := 1048570; seq < 1048576; seq++ {
		x := made(t, three())
		x.Seq = seq
		does(t, x, ask(2, "3.14", api.X), fmt.Sprintf("2: lock 3.14:7.%dX", seq+1),
			fmt.Sprintf("7 Active; request %d of 2: 3.14X, open; touched 2 5 9; got 5:7.1S 9:7.3IX", seq+1))
	}
}

func TestAskOfOneShardAgain(t *testing.T) {
	x := begun(t, mine)
	for seq := 1; seq <= 70; seq++ {
		x = does(t, x, ask(5, "3", api.S), fmt.Sprintf("5: lock 3:7.%dS", seq), fmt.Sprintf("7 Active; request %d of 5: 3S, open; touched 5", seq))
		x = more(t, x, answer(refused(5, seq, 9)))
	}
	does(t, x, finish(), "5: prepare 7", "7 Preparing; request 70 of 5: 3S; touched 5")
}

// touchedBy is what those shards are touched as: each once, rising.
func touchedBy(l []int) []int { return slices.Compact(slices.Sorted(slices.Values(l))) }

func TestTouchedIsRisingWhateverTheOrder(t *testing.T) {
	by := uint64(17)
	for n := range 300 {
		all := shards()
		check.Mix(all, &by)
		order := slices.Concat(all[:1+n%64], all[:n%31], all[n%13:]) // some again
		x := begun(t, mine)
		for i, shard := range order {
			x = more(t, x, ask(shard, "3", api.S), answer(refused(shard, i+1, 9)))
			if want := touchedBy(order[:i+1]); !slices.Equal(x.Touched, want) {
				t.Errorf("%v are touched, want %v", x.Touched, want)
			}
		}
	}
}

func TestAnsweredByEachGrant(t *testing.T) {
	for _, shard := range shards() {
		for _, place := range []string{"1", "250", "3.14", "250.250"} {
			for _, asked := range check.Modes() {
				for _, m := range check.Modes() { // it may have more than it asked for, and is told what
					x := more(t, begun(t, mine), ask(shard, place, asked))
					does(t, x, answer(granted(shard, 1, place, m)), "",
						fmt.Sprintf("7 Active; request 1 of %d: %s%s; touched %d; got %s:7.1%s", shard, place, check.Mode(asked), shard, place, check.Mode(m)))
				}
			}
		}
	}
}

func TestAnsweredByEachRefusal(t *testing.T) {
	for _, shard := range shards() {
		for code := 1; code <= 15; code++ {
			x := more(t, begun(t, mine), ask(shard, "3.14", api.X))
			does(t, x, answer(refused(shard, 1, code)), "", fmt.Sprintf("7 Active; request 1 of %d: 3.14X; touched %d", shard, shard))
		}
	}
}

func TestGotIsInTheOrderOfItsGrants(t *testing.T) {
	x := begun(t, 1048576)
	for i, q := range []struct{ place, got string }{
		{"9", "9:1048576.1S"}, {"250.250", "250.250:1048576.2S"}, {"3", "3:1048576.3S"}, {"9", "9:1048576.4X"}, {"3.1", ""}, {"3", "3:1048576.6IS"}, {"3", "3:1048576.7IS"},
	} {
		before := check.Granted(x.Got)
		x = more(t, x, ask(64-i, q.place, api.S))
		m := of(1048576, granted(64-i, i+1, q.place, []api.Mode{api.S, api.S, api.S, api.X, api.S, api.IS, api.IS}[i]))
		want := before + " " + q.got
		if q.got == "" {
			m, want = of(1048576, refused(64-i, i+1, 9)), before
		}
		if i == 0 {
			want = q.got
		}
		x = more(t, x, answer(m))
		if got := check.Granted(x.Got); got != want {
			t.Errorf("it got %s, want %s", got, want)
		}
	}
	is(t, x, false, false)
}

// turned are, of a message, the same between other nodes: back, from and to the coordinator, from and to no shard.
func turned(m api.Msg) []api.Msg {
	var all []api.Msg
	for _, ends := range [][2]int{{m.To, m.From}, {0, 0}, {m.From, m.From}, {m.From, 1}, {-m.From, 0}, {65, 0}, {m.From + 256, 0}} {
		m.From, m.To = ends[0], ends[1]
		all = append(all, m)
	}
	return all
}

// formless are messages that none of those kinds is, of the usual transaction where they may be of one; ones that may not be; and ones of other transactions, of those that may be otherwise.
func formless(rights ...api.Msg) []api.Msg {
	all := slices.Concat(check.WrongMessages(), check.WrongProbes())
	kind := func(m api.Msg) bool {
		return slices.ContainsFunc(rights, func(right api.Msg) bool { return right.Kind == m.Kind })
	}
	for _, m := range check.Messages() {
		if !kind(m) {
			all = append(all, m, of(mine, m))
		}
	}
	for _, m := range rights {
		for _, tx := range slices.Concat(check.Numbers(), check.WrongNumbers(), []int{mine - 1, mine + 1, mine + 256, mine + 65536, -mine}) {
			if tx != mine {
				all = append(all, of(tx, m))
			}
		}
		all = append(all, turned(m)...)
	}
	return all
}

func TestAnsweredByWhatIsNoAnswerOfIt(t *testing.T) {
	wrong := formless(granted(2, 4, "3.14", api.X), refused(2, 4, 9))
	for _, x := range some(t) { // in each state, and while one is open or none is: ErrForm is the first
		for _, m := range wrong {
			mayNot(t, x, answer(m), api.ErrForm)
		}
	}
}

func TestAnsweredInEachState(t *testing.T) {
	for _, x := range some(t) {
		for _, shard := range []int{2, 5, 64} {
			for _, m := range []api.Msg{granted(shard, max(x.Seq, 1), "3.14", api.X), refused(shard, max(x.Seq, 1), 9), refused(shard, 1048576, 15)} {
				switch {
				case x.State != txn.Active:
					mayNot(t, x, answer(m), api.ErrState)
				case !x.Open || m.From != x.Shard || m.Seq != x.Seq:
					mayNot(t, x, answer(m), api.ErrStale)
				default:
					if one := more(t, x, answer(m)); one.Open || one.Seq != x.Seq || one.State != txn.Active {
						t.Errorf("%+v of %s makes %s", m, check.Txn(x), check.Txn(one))
					}
				}
			}
		}
	}
}

func TestAnsweredWhenNothingIsOpen(t *testing.T) {
	for _, last := range []api.Msg{granted(2, 4, "3.14", api.X), refused(2, 4, 9)} {
		x := made(t, three(), []move{ask(2, "3.14", api.X), answer(last)})
		for _, m := range []api.Msg{granted(2, 4, "3.14", api.X), granted(2, 4, "3.14", api.S), refused(2, 4, 9), refused(2, 4, 1), granted(5, 1, "5", api.S), refused(2, 5, 9)} {
			mayNot(t, x, answer(m), api.ErrStale) // the same answer once more, too
		}
	}
}

func TestAnsweredOfAnotherRequest(t *testing.T) {
	x := made(t, three(), []move{ask(2, "3.14", api.X)})
	for _, seq := range slices.Concat(check.Numbers(), check.UpTo(1, 300), []int{4 + 256, 4 + 65536}) {
		if seq == 4 {
			continue
		}
		mayNot(t, x, answer(granted(2, seq, "3.14", api.X)), api.ErrStale)
		mayNot(t, x, answer(refused(2, seq, 9)), api.ErrStale)
	}
	for _, seq := range check.WrongNumbers() {
		mayNot(t, x, answer(granted(2, seq, "3.14", api.X)), api.ErrForm)
		mayNot(t, x, answer(refused(2, seq, 9)), api.ErrForm)
	}
}

func TestAnsweredByAnotherShard(t *testing.T) {
	x := made(t, three(), []move{ask(2, "3.14", api.X)})
	for _, shard := range shards() { // of which 5 and 9 are touched, too
		if shard == 2 {
			continue
		}
		mayNot(t, x, answer(granted(shard, 4, "3.14", api.X)), api.ErrStale)
		mayNot(t, x, answer(refused(shard, 4, 9)), api.ErrStale)
	}
	for _, shard := range noShards() {
		mayNot(t, x, answer(granted(shard, 4, "3.14", api.X)), api.ErrForm)
		mayNot(t, x, answer(refused(shard, 4, 9)), api.ErrForm)
	}
}

func TestAnsweredOfAnotherResource(t *testing.T) {
	for _, place := range []string{"3.14", "3", "14.3", "250.250"} {
		x := made(t, three(), []move{ask(2, place, api.X)})
		for _, other := range []string{"3", "3.14", "3.13", "3.15", "2.14", "4.14", "14", "14.3", "250", "250.250", "1.1", "1"} {
			if other == place {
				continue
			}
			mayNot(t, x, answer(granted(2, 4, other, api.X)), api.ErrStale)
		}
		does(t, x, answer(refused(2, 4, 9)), "", "7 Active; request 4 of 2: "+place+"X; touched 2 5 9; got 5:7.1S 9:7.3IX")
		does(t, x, answer(granted(2, 4, place, api.IS)), "", "7 Active; request 4 of 2: "+place+"X; touched 2 5 9; got 5:7.1S 9:7.3IX "+place+":7.4IS")
	}
}

func TestBehindAnAnswerOneMayAsk(t *testing.T) {
	x := made(t, three())
	mayNot(t, x, answer(granted(5, 1, "5", api.S)), api.ErrStale)
	x = does(t, x, ask(64, "9.9", api.S), "64: lock 9.9:7.4S", "7 Active; request 4 of 64: 9.9S, open; touched 2 5 9 64; got 5:7.1S 9:7.3IX")
	mayNot(t, x, ask(64, "9.9", api.S), api.ErrBusy)
	x = does(t, x, answer(refused(64, 4, 7)), "", "7 Active; request 4 of 64: 9.9S; touched 2 5 9 64; got 5:7.1S 9:7.3IX")
	does(t, x, ask(64, "9.9", api.S), "64: lock 9.9:7.5S", "7 Active; request 5 of 64: 9.9S, open; touched 2 5 9 64; got 5:7.1S 9:7.3IX")
}
