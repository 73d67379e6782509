package check

import (
	"slices"
	"strconv"
	"strings"

	"catchbolt/api"
	"catchbolt/msg"
	"catchbolt/txn"
)

// states are the names of transactions' states, by their numbers.
var states = []string{"?", "Active", "Preparing", "Committed", "Aborted"}

// Txn is all that a transaction has, as a text, without what it has nothing of: "7 Active; request 2 of 5: 3.14X, open; touched 2 5; got 3:7.1IS".
func Txn(x txn.Txn) string {
	state := "?" + strconv.Itoa(x.State)
	if x.State >= 0 && x.State < len(states) {
		state = states[x.State]
	}
	all := []string{strconv.Itoa(x.Tx) + " " + state}
	if x.Reason != 0 {
		all[0] += " " + strconv.Itoa(x.Reason)
	}
	if x.Seq != 0 || x.Open || x.Shard != 0 || x.At != (api.Res{}) || x.Mode != 0 {
		open := ""
		if x.Open {
			open = ", open"
		}
		all = append(all, "request "+strconv.Itoa(x.Seq)+" of "+strconv.Itoa(x.Shard)+": "+Res(x.At)+Mode(x.Mode)+open)
	}
	for i, l := range [][]int{x.Touched, x.Votes, x.Acks} {
		if len(l) > 0 {
			all = append(all, []string{"touched ", "votes ", "acks "}[i]+joined(l, strconv.Itoa))
		}
	}
	if len(x.Got) > 0 {
		all = append(all, "got "+Granted(x.Got))
	}
	return strings.Join(all, "; ")
}

// SameTxn says whether two transactions are the same. Lists that are nil and that are empty are one.
func SameTxn(a, b txn.Txn) bool {
	plain := func(x txn.Txn) [9]int {
		open := 0
		if x.Open {
			open = 1
		}
		return [...]int{x.Tx, x.State, x.Reason, x.Seq, open, x.Shard, x.At.Table, x.At.Row, int(x.Mode)}
	}
	return plain(a) == plain(b) && slices.Equal(a.Touched, b.Touched) && slices.Equal(a.Votes, b.Votes) && slices.Equal(a.Acks, b.Acks) && slices.Equal(a.Got, b.Got)
}

// wrongGrant is a lock that nobody has.
var wrongGrant = api.Grant{Tx: -1, Seq: -1, At: api.Res{Table: -1, Row: -1}, Mode: -1}

// wrongTxn is a transaction that nobody began.
var wrongTxn = txn.Txn{Tx: -1, State: -1}

// SpoilTxn changes all of a transaction's lists, and what is behind them in their room.
func SpoilTxn(x txn.Txn) {
	for _, l := range [][]int{x.Touched, x.Votes, x.Acks} {
		Spoil(l, -1)
	}
	Spoil(x.Got, wrongGrant)
}

// IsSpoiled says whether all that is in a transaction's lists is what SpoilTxn puts there.
func IsSpoiled(x txn.Txn) bool {
	numbers := slices.Concat(x.Touched, x.Votes, x.Acks)
	return !slices.ContainsFunc(numbers, func(n int) bool { return n != -1 }) && !slices.ContainsFunc(x.Got, func(g api.Grant) bool { return g != wrongGrant })
}

// SentTo is the text of what the coordinator sends: "2: lock 3.14:7.1X, 5: prepare 7". That a message may be is what says that all else in it is 0.
func SentTo(l []api.Msg) string {
	return between(", ", l, func(m api.Msg) string {
		if m.From != 0 || msg.Ok(m) != nil {
			return whole(m) + ", which may not be"
		}
		return strconv.Itoa(m.To) + ": " + sent(m)
	})
}
