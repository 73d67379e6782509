package check

import (
	"slices"
	"strconv"
	"strings"

	"catchbolt/api"
	"catchbolt/coord"
	"catchbolt/shard"
)

// States are the names of the states that a transaction has at a shard, by their numbers.
func States() []string {
	return []string{"Fresh", "Active", "Prepared", "Expired", "Committed", "Aborted"}
}

// Shard is all that a shard's view has, as a text, without what it has nothing of: "time 2; states 5=Active; leases 5; book 5; held 3:5X; log 3:5.1X".
func Shard(v shard.View) string {
	var all []string
	add := func(name, text string) {
		if text != "" {
			all = append(all, name+" "+text)
		}
	}
	if v.Time != 0 {
		add("time", strconv.Itoa(v.Time))
	}
	add("states", joined(v.States, stated))
	add("leases", joined(v.Leases, strconv.Itoa))
	add("book", joined(v.Book, strconv.Itoa))
	add("edges", Edged(v.Edges))
	add("held", Granted(v.Held))
	add("waits", Granted(v.Waits))
	add("log", Granted(v.Log))
	return strings.Join(all, "; ")
}

// stated is the text of a transaction's state at a shard.
func stated(s shard.State) string {
	name := "?" + strconv.Itoa(s.State)
	if names := States(); s.State >= 0 && s.State < len(names) {
		name = names[s.State]
	}
	return strconv.Itoa(s.Tx) + "=" + name
}

// SameShard says whether two views of shards have the same. Lists that are nil and that are empty are one.
func SameShard(a, b shard.View) bool {
	return a.Time == b.Time && slices.Equal(a.States, b.States) && slices.Equal(a.Leases, b.Leases) && slices.Equal(a.Book, b.Book) &&
		slices.Equal(a.Edges, b.Edges) && slices.Equal(a.Held, b.Held) && slices.Equal(a.Waits, b.Waits) && slices.Equal(a.Log, b.Log)
}

// SpoilShard changes all of a shard's view, and what is behind it in its room.
func SpoilShard(v shard.View) {
	Spoil(v.States, shard.State{Tx: -1, State: -1})
	for _, l := range [][]int{v.Leases, v.Book} {
		Spoil(l, -1)
	}
	Spoil(v.Edges, api.Edge{From: -1, Seq: -1, To: -1, ToSeq: -1})
	for _, l := range [][]api.Grant{v.Held, v.Waits, v.Log} {
		Spoil(l, wrongGrant)
	}
}

// Coord is all that a coordinator's view has, as a text of several lines: "time 2", "last 1", "1 Active", "trace began 1 client 1".
func Coord(v coord.View) string {
	all := []string{"time " + strconv.Itoa(v.Time), "last " + strconv.Itoa(v.Last)}
	for _, x := range v.Txns {
		all = append(all, Txn(x))
	}
	return strings.Join(all, "\n  ") + "\n  trace " + Traced(v.Trace)
}

// SameCoord says whether two views of coordinators have the same. Lists that are nil and that are empty are one.
func SameCoord(a, b coord.View) bool {
	return a.Time == b.Time && a.Last == b.Last && slices.EqualFunc(a.Txns, b.Txns, SameTxn) && slices.Equal(a.Trace, b.Trace)
}

// SpoilCoord changes all of a coordinator's view, its transactions' lists too, and what is behind it in its room.
func SpoilCoord(v coord.View) {
	for _, x := range v.Txns {
		SpoilTxn(x)
	}
	Spoil(v.Txns, wrongTxn)
	Spoil(v.Trace, api.Event{Kind: -1})
}
