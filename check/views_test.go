package check_test

import (
	"testing"

	"catchbolt/api"
	"catchbolt/check"
	"catchbolt/coord"
	"catchbolt/shard"
	"catchbolt/txn"
)

// node is a shard's view that has something of all, in new memory with room behind each list.
func node() shard.View {
	return shard.View{
		Time: 2, States: append([]shard.State{{Tx: 5, State: 1}, {Tx: 7, State: 5}}, shard.State{})[:2],
		Leases: []int{5, 9}[:1], Book: []int{5, 8, 9}[:2], Edges: []api.Edge{{From: 8, Seq: 2, To: 5}, {}}[:1],
		Held:  []api.Grant{{Tx: 5, At: check.At("3"), Mode: api.X}, {}}[:1],
		Waits: []api.Grant{{Tx: 8, Seq: 2, At: check.At("3"), Mode: api.S}, {}}[:1],
		Log:   []api.Grant{{Tx: 7, Seq: 1, At: check.At("3.14"), Mode: api.S}, {Tx: 5, Seq: 1, At: check.At("3"), Mode: api.X}, {}}[:2],
	}
}

func TestShard(t *testing.T) {
	same(t, check.Shard(shard.View{}), "")
	same(t, check.Shard(node()), "time 2; states 5=Active 7=Aborted; leases 5; book 5 8; edges 8.2>5; held 3:5X; waits 3:8.2S; log 3.14:7.1S 3:5.1X")
	same(t, check.Shard(shard.View{States: []shard.State{{Tx: 1}, {Tx: 2, State: 6}, {Tx: 3, State: -1}}}), "states 1=Fresh 2=?6 3=?-1")
	for state, name := range check.States() {
		same(t, check.Shard(shard.View{States: []shard.State{{Tx: 7, State: state}}}), "states 7="+name)
	}
}

// nodeChanges change a shard's view, each by one thing.
func nodeChanges() []func(v *shard.View) {
	return []func(v *shard.View){
		func(v *shard.View) { v.Time++ }, func(v *shard.View) { v.States[1].State-- }, func(v *shard.View) { v.Leases = nil }, func(v *shard.View) { v.Book[1]++ },
		func(v *shard.View) { v.Edges[0].ToSeq++ }, func(v *shard.View) { v.Held[0].Seq++ }, func(v *shard.View) { v.Waits[0].Mode++ }, func(v *shard.View) { v.Log[1].At.Row++ },
	}
}

func TestSameShard(t *testing.T) {
	empty := shard.View{States: []shard.State{}, Leases: []int{}, Book: []int{}, Edges: []api.Edge{}, Held: []api.Grant{}, Waits: []api.Grant{}, Log: []api.Grant{}}
	if !check.SameShard(node(), node()) || !check.SameShard(shard.View{}, empty) {
		t.Error("they aren't the same")
	}
	for i, change := range nodeChanges() {
		v := node()
		if change(&v); check.SameShard(v, node()) || check.SameShard(node(), v) {
			t.Errorf("%d: %s", i, check.Shard(v))
		}
	}
}

func TestSpoilShard(t *testing.T) {
	v := node()
	check.SpoilShard(v)
	same(t, check.Shard(v), "time 2; states -1=?-1 -1=?-1; leases -1; book -1 -1; edges -1.-1>-1.-1; held -1.-1:-1.-1?-1; waits -1.-1:-1.-1?-1; log -1.-1:-1.-1?-1 -1.-1:-1.-1?-1")
	v.Leases, v.Book, v.Edges, v.Held, v.Waits, v.Log = v.Leases[:2], v.Book[:3], v.Edges[:2], v.Held[:2], v.Waits[:2], v.Log[:3]
	same(t, check.Shard(v), "time 2; states -1=?-1 -1=?-1; leases -1 -1; book -1 -1 -1; edges -1.-1>-1.-1 -1.-1>-1.-1; held -1.-1:-1.-1?-1 -1.-1:-1.-1?-1; waits -1.-1:-1.-1?-1 -1.-1:-1.-1?-1; log -1.-1:-1.-1?-1 -1.-1:-1.-1?-1 -1.-1:-1.-1?-1")
}

// centre is a coordinator's view that has something of all, in new memory with room behind each list.
func centre() coord.View {
	return coord.View{Time: 3, Last: 7, Txns: []txn.Txn{{Tx: 6, State: txn.Committed}, aborted(), {}}[:2], Trace: []api.Event{{Kind: api.EvCrashed, Client: 2}, {}}[:1]}
}

func TestCoord(t *testing.T) {
	same(t, check.Coord(coord.View{}), "time 0\n  last 0\n  trace ")
	same(t, check.Coord(centre()), "time 3\n  last 7\n  6 Committed\n  "+check.Txn(aborted())+"\n  trace crashed client 2")
}

func TestSameCoord(t *testing.T) {
	if !check.SameCoord(centre(), centre()) || !check.SameCoord(coord.View{}, coord.View{Txns: []txn.Txn{}, Trace: []api.Event{}}) {
		t.Error("they aren't the same")
	}
	for i, change := range []func(v *coord.View){
		func(v *coord.View) { v.Time++ }, func(v *coord.View) { v.Last++ }, func(v *coord.View) { v.Txns = v.Txns[:1] }, func(v *coord.View) { v.Txns[1].Seq++ }, func(v *coord.View) { v.Trace[0].Kind-- },
	} {
		v := centre()
		if change(&v); check.SameCoord(v, centre()) || check.SameCoord(centre(), v) {
			t.Errorf("%d: %s", i, check.Coord(v))
		}
	}
}

func TestSpoilCoord(t *testing.T) {
	v := centre()
	x := v.Txns[1]
	check.SpoilCoord(v)
	same(t, check.Coord(v), "time 3\n  last 7\n  -1 ?-1\n  -1 ?-1\n  trace ?-1")
	if !check.IsSpoiled(x) || v.Txns[:3][2].Tx != -1 || v.Trace[:2][1].Kind != -1 {
		t.Errorf("%s, %v", check.Txn(x), v)
	}
}
