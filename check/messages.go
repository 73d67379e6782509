package check

import (
	"math"

	"catchbolt/api"
)

// Probe is one of so many steps, from a shard, of which each number is another one.
func Probe(n int) api.Msg {
	m := api.Msg{Kind: api.KProbe, From: 3, Next: 1000, NextSeq: 70, N: n}
	for i := range n {
		m.Path[i] = api.Step{Tx: 100 + i, Seq: 200 + i}
	}
	return m
}

// Down is a probe of a shard, as the coordinator sends it to that one.
func Down(m api.Msg) api.Msg {
	m.From, m.To = 0, m.From
	return m
}

// Others are messages that may be, of each kind but probes one.
func Others() []api.Msg {
	return []api.Msg{
		{Kind: api.KLock, To: 64, Tx: 1048576, Seq: 1048576, At: api.Res{Table: 250, Row: 250}, Mode: api.X},
		{Kind: api.KGranted, From: 2, Tx: 7, Seq: 9, At: api.Res{Table: 3}, Mode: api.IS},
		{Kind: api.KRefused, From: 2, Tx: 7, Seq: 9, Code: 9},
		{Kind: api.KPrepare, To: 2, Tx: 7},
		{Kind: api.KVote, From: 2, Tx: 7, Code: 1},
		{Kind: api.KDecide, To: 2, Tx: 7, Code: 0},
		{Kind: api.KAck, From: 2, Tx: 7},
		{Kind: api.KRenew, To: 2, Tx: 7},
		{Kind: api.KExpired, From: 64, Tx: 7},
		{Kind: api.KWound, From: 2, Tx: 7, Next: 5},
	}
}

// Messages are some that may be: of each kind one, and of probes some more.
func Messages() []api.Msg {
	return append(Others(), Probe(1), Probe(2), Probe(8), Down(Probe(1)), Down(Probe(5)))
}

// WrongMessages are some that may not be.
func WrongMessages() []api.Msg {
	return append(WrongProbes(), []api.Msg{
		{},
		{Kind: 12, To: 2, Tx: 7},
		{Kind: -1, To: 2, Tx: 7},
		{Kind: math.MinInt64, From: math.MinInt64, To: math.MaxInt64, Tx: math.MaxInt64, N: math.MaxInt64},
		{Kind: api.KPrepare, From: 2, Tx: 7},
		{Kind: api.KPrepare, From: 1, To: 2, Tx: 7},
		{Kind: api.KPrepare, To: 65, Tx: 7},
		{Kind: api.KPrepare, To: 2},
		{Kind: api.KPrepare, To: 2, Tx: 1048577},
		{Kind: api.KPrepare, To: 2, Tx: 7, Seq: 1},
		{Kind: api.KPrepare, To: 2, Tx: 7, N: 1},
		{Kind: api.KRefused, From: 2, Tx: 7, Seq: 9},
		{Kind: api.KVote, From: 2, Tx: 7, Code: 2},
		{Kind: api.KWound, From: 2, Tx: 7, Next: 7},
		{Kind: api.KLock, To: 2, Tx: 7, Seq: 9, At: api.Res{Table: 251}, Mode: api.X},
		{Kind: api.KLock, To: 2, Tx: 7, Seq: 9, At: api.Res{Table: 3}},
	}...)
}

// WrongProbes are ones that may not be, of a few steps and of all, both ways, each by one thing alone.
func WrongProbes() []api.Msg {
	var l []api.Msg
	for _, n := range []int{1, 4, 7, 8} {
		for _, m := range []api.Msg{Probe(n), Down(Probe(n))} {
			for _, spoil := range spoilers() {
				wrong := m
				spoil(&wrong)
				l = append(l, wrong)
			}
		}
	}
	return l
}

// spoilers make of a probe that may be, each by one thing, one that may not be.
func spoilers() []func(m *api.Msg) {
	return []func(m *api.Msg){
		func(m *api.Msg) { m.Kind = 12 },
		func(m *api.Msg) { m.Kind = api.KWound },
		func(m *api.Msg) { m.Kind += 256 },
		func(m *api.Msg) { m.From, m.To = 0, 0 },
		func(m *api.Msg) { m.From, m.To = 3, 3 },
		func(m *api.Msg) { m.From, m.To = 65*min(m.From, 1), 65*min(m.To, 1) },
		func(m *api.Msg) { m.From, m.To = -m.From, -m.To },
		func(m *api.Msg) { m.Tx = 100 },
		func(m *api.Msg) { m.Seq = 200 },
		func(m *api.Msg) { m.At.Table = 3 },
		func(m *api.Msg) { m.At.Row = 14 },
		func(m *api.Msg) { m.Mode = api.S },
		func(m *api.Msg) { m.Code = 1 },
		func(m *api.Msg) { m.Next = 0 },
		func(m *api.Msg) { m.Next = -1000 },
		func(m *api.Msg) { m.Next = 1048577 },
		func(m *api.Msg) { m.NextSeq = -1 },
		func(m *api.Msg) { m.NextSeq = 1048577 },
		func(m *api.Msg) { m.N = 0 },
		func(m *api.Msg) { m.N = -1 },
		func(m *api.Msg) { m.N = 9 },
		func(m *api.Msg) { m.N += 256 },
		func(m *api.Msg) { m.N, m.Path = 2, [api.MaxPath]api.Step{{Tx: 100, Seq: 200}, {Tx: 100, Seq: 201}} },
		func(m *api.Msg) { m.Path[m.N-1] = api.Step{} },
		func(m *api.Msg) { m.Path[0].Tx = 0 },
		func(m *api.Msg) { m.Path[0].Tx = 1048577 },
		func(m *api.Msg) { m.Path[m.N/2].Seq = 0 },
		func(m *api.Msg) { m.Path[m.N/2].Seq = 1048577 },
		func(m *api.Msg) {
			m.N--
			m.Path[m.N] = api.Step{Tx: 900, Seq: 900}
		},
	}
}
