package txn_test

import (
	"fmt"
	"math"
	"slices"
	"strings"
	"testing"

	"catchbolt/api"
	"catchbolt/check"
	"catchbolt/txn"
)

// to is the text of a message that goes to each of those shards.
func to(what string, shards ...int) string {
	var all []string
	for _, shard := range shards {
		all = append(all, fmt.Sprintf("%d: %s", shard, what))
	}
	return strings.Join(all, ", ")
}

// listed is the text of a list of a transaction, if it has any.
func listed(name string, l []int) string {
	if len(l) == 0 {
		return ""
	}
	return "; " + name + " " + strings.Trim(fmt.Sprint(l), "[]")
}

// orders are all orders of numbers.
func orders(l []int) [][]int {
	if len(l) < 2 {
		return [][]int{l}
	}
	var all [][]int
	for i, first := range l {
		for _, rest := range orders(slices.Concat(l[:i], l[i+1:])) {
			all = append(all, append([]int{first}, rest...))
		}
	}
	return all
}

// touching are requests of those shards, all answered by refusals.
func touching(shards ...int) []move {
	var all []move
	for i, shard := range shards {
		all = append(all, ask(shard, "3", api.S), answer(refused(shard, i+1, 9)))
	}
	return all
}

// threeHas is what one that asked three has beside its state.
const threeHas = "; request 3 of 9: 9IX; touched 2 5 9"

// threeGot is what it got.
const threeGot = "; got 5:7.1S 9:7.3IX"

// P17.2

func TestFinishOfOneThatTouchedNone(t *testing.T) {
	for _, tx := range check.Numbers() {
		x := does(t, begun(t, tx), finish(), "", fmt.Sprintf("%d Committed", tx))
		is(t, x, true, true)
		again(t, x, "", "")
		mayNot(t, x, finish(), api.ErrState)
		mayNot(t, x, ask(2, "3", api.S), api.ErrState)
		mayNot(t, x, abort(txn.ByClient), api.ErrDone)
		mayNot(t, x, vote(of(tx, voted(2, 1))), api.ErrState)
		mayNot(t, x, vote(of(tx, voted(2, 0))), api.ErrState)
		mayNot(t, x, ack(of(tx, acked(2))), api.ErrNone)
	}
}

func TestFinishOfOneThatTouchedOne(t *testing.T) {
	for _, shard := range shards() {
		x := does(t, made(t, touching(shard)), finish(), to("prepare 7", shard),
			fmt.Sprintf("7 Preparing; request 1 of %d: 3S; touched %d", shard, shard))
		is(t, x, false, false)
		mayNot(t, x, finish(), api.ErrState)
	}
}

func TestFinishOfOneThatTouchedSeveral(t *testing.T) {
	does(t, made(t, three()), finish(), to("prepare 7", 2, 5, 9), "7 Preparing"+threeHas+threeGot)
	by := uint64(2)
	for n := range 64 {
		order := shards()
		check.Mix(order, &by)
		order = order[:n+1]
		one, sent, err := tried(t, made(t, touching(order...)), finish())
		if got, want := check.SentTo(sent), to("prepare 7", touchedBy(order)...); got != want || err != nil || one.State != txn.Preparing {
			t.Errorf("%v: Finish sends %s, %v, want %s, and makes %s", order, got, err, want, check.Txn(one))
		}
	}
}

func TestFinishWhileOneIsOpen(t *testing.T) {
	for _, ahead := range [][]move{nil, touching(2), touching(5), three()} {
		x := made(t, ahead, []move{ask(2, "3.14", api.X)})
		mayNot(t, x, finish(), api.ErrBusy)
		m := refused(2, x.Seq, 9)
		does(t, more(t, x, answer(m)), finish(), to("prepare 7", x.Touched...), strings.Replace(strings.Replace(check.Txn(x), "Active", "Preparing", 1), ", open", "", 1))
	}
}

func TestFinishInEachState(t *testing.T) {
	for _, x := range some(t) {
		switch {
		case x.State != txn.Active:
			mayNot(t, x, finish(), api.ErrState)
		case x.Open:
			mayNot(t, x, finish(), api.ErrBusy)
		default:
			if one := more(t, x, finish()); one.State != txn.Preparing && len(x.Touched) > 0 {
				t.Errorf("Finish of %s makes %s", check.Txn(x), check.Txn(one))
			}
		}
	}
}

func TestVoteOfTheOnlyOne(t *testing.T) {
	for _, shard := range shards() {
		has := fmt.Sprintf("; request 1 of %d: 3S; touched %d", shard, shard)
		x := made(t, touching(shard), []move{finish()})
		one := does(t, x, vote(voted(shard, 1)), to("decide 7 1", shard), fmt.Sprintf("7 Committed%s; votes %d", has, shard))
		is(t, one, true, false)
		one = does(t, x, vote(voted(shard, 0)), to("decide 7 0", shard), "7 Aborted 2"+has)
		is(t, one, true, false)
	}
}

func TestVotesInEachOrder(t *testing.T) {
	for _, order := range orders([]int{2, 5, 9}) {
		x := made(t, three(), []move{finish()})
		for i, shard := range order {
			state, sent := "7 Preparing", ""
			if i == 2 {
				state, sent = "7 Committed", to("decide 7 1", 2, 5, 9)
			}
			x = does(t, x, vote(voted(shard, 1)), sent, state+threeHas+listed("votes", touchedBy(order[:i+1]))+threeGot)
			is(t, x, i == 2, false)
		}
		mayNot(t, x, vote(voted(order[0], 1)), api.ErrState)
	}
}

func TestVotesOfAllShards(t *testing.T) {
	by := uint64(3)
	for range 5 {
		order := shards()
		check.Mix(order, &by)
		x := made(t, touching(order...), []move{finish()})
		for i, shard := range order {
			one, sent, err := tried(t, x, vote(voted(shard, 1)))
			want := ""
			if i == 63 {
				want = to("decide 7 1", shards()...)
			}
			if check.SentTo(sent) != want || err != nil || txn.Decided(one) != (i == 63) || !slices.Equal(one.Votes, touchedBy(order[:i+1])) {
				t.Errorf("%v: the vote of %d sends %s, %v, and makes %s", order, shard, check.SentTo(sent), err, check.Txn(one))
			}
			x = one
		}
	}
}

func TestVoteTwice(t *testing.T) {
	for _, order := range orders([]int{2, 5, 9}) {
		x := made(t, three(), []move{finish()})
		for i, shard := range order[:2] { // all but one, each many times
			votes := listed("votes", touchedBy(order[:i+1]))
			for range 3 {
				x = does(t, x, vote(voted(shard, 1)), "", "7 Preparing"+threeHas+votes+threeGot)
				x = does(t, x, vote(voted(order[0], 1)), "", "7 Preparing"+threeHas+votes+threeGot)
			}
		}
		does(t, x, vote(voted(order[2], 1)), to("decide 7 1", 2, 5, 9), "7 Committed"+threeHas+"; votes 2 5 9"+threeGot)
	}
}

func TestVoteAgainst(t *testing.T) {
	for _, order := range orders([]int{2, 5, 9}) {
		for many := range 3 {
			x := made(t, three(), []move{finish()}, yes(order[:many]...))
			for _, shard := range order { // who voted for it ahead, too
				one := does(t, x, vote(voted(shard, 0)), to("decide 7 0", 2, 5, 9), "7 Aborted 2"+threeHas+listed("votes", touchedBy(order[:many]))+threeGot)
				is(t, one, true, false)
				for _, again := range order { // no vote behind it counts
					mayNot(t, one, vote(voted(again, 1)), api.ErrState)
					mayNot(t, one, vote(voted(again, 0)), api.ErrState)
				}
			}
		}
	}
}

func TestVoteByWhatIsNoVoteOfIt(t *testing.T) {
	wrong := formless(voted(5, 1), voted(5, 0))
	for _, x := range some(t) { // in each state: ErrForm is the first
		for _, m := range wrong {
			mayNot(t, x, vote(m), api.ErrForm)
		}
		for _, code := range []int{math.MinInt64, -1, 2, 3, 15, 256, 257, 1 << 32, 1<<32 + 1, math.MaxInt64} {
			mayNot(t, x, vote(voted(5, code)), api.ErrForm)
		}
	}
}

func TestVoteInEachState(t *testing.T) {
	for _, x := range some(t) {
		for _, shard := range shards() {
			for code := range 2 {
				d := vote(voted(shard, code))
				switch {
				case x.State != txn.Preparing: // from one that isn't touched, too
					mayNot(t, x, d, api.ErrState)
				case !slices.Contains(x.Touched, shard):
					mayNot(t, x, d, api.ErrNone)
				default:
					if one := more(t, x, d); slices.Contains(one.Votes, shard) != (code == 1) && !slices.Contains(x.Votes, shard) {
						t.Errorf("%+v of %s makes %s", d, check.Txn(x), check.Txn(one))
					}
				}
			}
		}
		for _, shard := range noShards() {
			mayNot(t, x, vote(voted(shard, 1)), api.ErrForm)
			mayNot(t, x, vote(voted(shard, 0)), api.ErrForm)
		}
	}
}

func TestAbortForEachReason(t *testing.T) {
	for _, x := range some(t) {
		for reason := 1; reason <= 5; reason++ {
			if x.State == txn.Committed || x.State == txn.Aborted {
				mayNot(t, x, abort(reason), api.ErrDone)
				continue
			}
			want := x
			want.State, want.Reason, want.Open = txn.Aborted, reason, false
			one := does(t, x, abort(reason), to("decide 7 0", x.Touched...), check.Txn(want))
			is(t, one, true, len(x.Touched) == 0)
			mayNot(t, one, abort(reason), api.ErrDone)
		}
	}
}

func TestAbortWhileOneIsOpen(t *testing.T) {
	x := made(t, three(), []move{ask(2, "3.14", api.X)})
	x = does(t, x, abort(txn.ByWound), to("decide 7 0", 2, 5, 9), "7 Aborted 3; request 4 of 2: 3.14X; touched 2 5 9"+threeGot)
	mayNot(t, x, answer(granted(2, 4, "3.14", api.X)), api.ErrState) // it comes too late
	mayNot(t, x, answer(refused(2, 4, 9)), api.ErrState)
	x = does(t, made(t, []move{ask(2, "3.14", api.X)}), abort(txn.ByLease), to("decide 7 0", 2), "7 Aborted 5; request 1 of 2: 3.14X; touched 2")
	mayNot(t, x, ask(2, "3.14", api.X), api.ErrState)
}

func TestAbortWhileItPrepares(t *testing.T) {
	for many := range 3 {
		x := made(t, three(), []move{finish()}, yes([]int{9, 2}[:many]...))
		does(t, x, abort(txn.ByLease), to("decide 7 0", 2, 5, 9), "7 Aborted 5"+threeHas+listed("votes", x.Votes)+threeGot)
	}
}

// noReasons are numbers of none.
func noReasons() []int {
	return []int{math.MinInt64, math.MinInt64 + 3, -1<<32 + 3, -1 << 32, math.MinInt32, -256, -253, -5, -3, -2, -1, 0, 6, 7, 8, 9, 15, 255, 256, 257, 259, 261, 65537, 1 << 32, 1<<32 + 1, 1<<32 + 5, 1 << 48, math.MaxInt64 - 1, math.MaxInt64}
}

func TestAbortForNoReason(t *testing.T) {
	for _, x := range some(t) { // of one that is decided, too: ErrArg is the first
		for _, reason := range noReasons() {
			mayNot(t, x, abort(reason), api.ErrArg)
		}
	}
}

func TestAckOfTheOnlyOne(t *testing.T) {
	for _, shard := range shards() {
		has := fmt.Sprintf("; request 1 of %d: 3S; touched %d", shard, shard)
		x := made(t, touching(shard), []move{abort(txn.ByClient)})
		is(t, x, true, false)
		x = does(t, x, ack(acked(shard)), "", fmt.Sprintf("7 Aborted 1%s; acks %d", has, shard))
		is(t, x, true, true)
		x = made(t, touching(shard), []move{finish()}, yes(shard), heard(shard))
		if want := fmt.Sprintf("7 Committed%s; votes %d; acks %d", has, shard, shard); check.Txn(x) != want {
			t.Errorf("%s, want %s", check.Txn(x), want)
		}
		is(t, x, true, true)
	}
}

func TestAcksInEachOrder(t *testing.T) {
	for _, order := range orders([]int{2, 5, 9}) {
		for name, x := range map[string]txn.Txn{
			"7 Committed" + threeHas + "; votes 2 5 9": made(t, three(), []move{finish()}, yes(2, 5, 9)),
			"7 Aborted 4" + threeHas:                   made(t, three(), []move{abort(txn.ByCircle)}),
		} {
			for i, shard := range order {
				for _, again := range order[:i+1] { // each once more, too
					x = does(t, x, ack(acked(again)), "", name+listed("acks", touchedBy(slices.Concat(order[:i], []int{again})))+threeGot)
				}
				is(t, x, true, i == 2)
				x = does(t, x, ack(acked(shard)), "", name+listed("acks", touchedBy(order[:i+1]))+threeGot)
				is(t, x, true, i == 2)
			}
		}
	}
}

func TestAcksOfAllShards(t *testing.T) {
	by := uint64(4)
	for range 5 {
		order := shards()
		check.Mix(order, &by)
		x := made(t, touching(order...), []move{abort(txn.ByWound)})
		for i, shard := range order {
			one, sent, err := tried(t, x, ack(acked(shard)))
			if len(sent) != 0 || err != nil || txn.Over(one) != (i == 63) || !slices.Equal(one.Acks, touchedBy(order[:i+1])) {
				t.Errorf("%v: the acknowledgement of %d makes %s, %v", order, shard, check.Txn(one), err)
			}
			x = one
		}
	}
}

func TestAckByWhatIsNoneOfIt(t *testing.T) {
	wrong := formless(acked(5))
	for _, x := range some(t) { // in each state: ErrForm is the first
		for _, m := range wrong {
			mayNot(t, x, ack(m), api.ErrForm)
		}
	}
}

func TestAckInEachState(t *testing.T) {
	for _, x := range some(t) {
		for _, shard := range shards() {
			d := ack(acked(shard))
			switch {
			case x.State != txn.Committed && x.State != txn.Aborted: // from one that isn't touched, too
				mayNot(t, x, d, api.ErrState)
			case !slices.Contains(x.Touched, shard):
				mayNot(t, x, d, api.ErrNone)
			default:
				want := x
				want.Acks = touchedBy(append(slices.Clone(x.Acks), shard))
				does(t, x, d, "", check.Txn(want))
			}
		}
		for _, shard := range noShards() {
			mayNot(t, x, ack(acked(shard)), api.ErrForm)
		}
	}
}
