package check_test

import (
	"errors"
	"fmt"
	"math"
	"slices"
	"strings"
	"testing"

	"catchbolt/api"
	"catchbolt/check"
	"catchbolt/msg"
	"catchbolt/res"
	"catchbolt/txn"
)

// fault and refusal wrap an error.
func fault(at int, err error) error { return &api.Fault{At: at, Err: err} }
func refusal(err error) error       { return &api.Refusal{Tx: 7, Err: err} }

// others are errors that are no plain ErrForm, nor a fault at 3 that wraps it alone.
func others() []error {
	return []error{
		nil, errors.New("other"), api.OK, api.ErrArg, api.ErrDone, api.Errno(16), api.Errno(-1),
		fault(4, api.ErrForm), fault(3, api.ErrFull), fault(3, api.OK), fault(3, errors.New("other")),
		refusal(api.ErrForm), fault(3, refusal(api.ErrForm)), refusal(fault(3, api.ErrForm)),
		errors.Join(api.ErrForm, api.ErrFull), errors.Join(fault(3, api.ErrForm), api.ErrFull),
	}
}

func TestPlain(t *testing.T) {
	for n := api.ErrArg; n <= api.ErrDone; n++ {
		for want := api.ErrArg; want <= api.ErrDone; want++ {
			if check.Plain(n, want) != (n == want) {
				t.Errorf("Plain(%v, %v)", n, want)
			}
		}
	}
	for _, err := range append(others(), fault(3, api.ErrForm)) {
		if check.Plain(err, api.ErrForm) {
			t.Errorf("Plain of %v", err)
		}
	}
}

func TestFault(t *testing.T) {
	if !check.Fault(fault(3, api.ErrForm), 3, api.ErrForm) {
		t.Error("no fault")
	}
	for _, err := range append(others(), api.ErrForm) {
		if check.Fault(err, 3, api.ErrForm) {
			t.Errorf("Fault of %v", err)
		}
	}
}

func TestRefusal(t *testing.T) {
	at := api.Res{Table: 3, Row: 14}
	refused := func(tx int, at api.Res, err error) error { return &api.Refusal{Tx: tx, At: at, Err: err} }
	if !check.Refusal(refused(7, at, api.ErrForm), 7, at, api.ErrForm) {
		t.Error("no refusal")
	}
	for _, err := range append(others(), api.ErrForm, fault(3, api.ErrForm),
		refused(8, at, api.ErrForm), refused(7, api.Res{Table: 3}, api.ErrForm), refused(7, api.Res{Table: 14, Row: 3}, api.ErrForm),
		refused(7, at, api.ErrFull), refused(7, at, api.OK), refused(7, at, fault(3, api.ErrForm)), fault(3, refused(7, at, api.ErrForm)),
		errors.Join(refused(7, at, api.ErrForm), api.ErrFull),
	) {
		if check.Refusal(err, 7, at, api.ErrForm) {
			t.Errorf("Refusal of %v", err)
		}
	}
}

// outside says whether a number is none from a least one on to a greatest one.
func outside(n, least, most int) bool { return n < least || n > most }

// eachOutside checks that all numbers of a list are outside, or that none is.
func eachOutside(t *testing.T, l []int, least, most int, want bool) {
	t.Helper()
	for _, n := range l {
		if outside(n, least, most) != want {
			t.Errorf("%d of %d to %d", n, least, most)
		}
	}
}

// asNumbers are modes as numbers.
func asNumbers(l []api.Mode) []int {
	var n []int
	for _, m := range l {
		n = append(n, int(m))
	}
	return n
}

// same checks a text.
func same(t *testing.T, got, want string) {
	t.Helper()
	if got != want {
		t.Errorf("%q, want %q", got, want)
	}
}

func TestTexts(t *testing.T) {
	same(t, check.Held(nil)+check.Queued(nil)+check.Edged(nil)+check.Granted(nil), "")
	same(t, check.Held([]api.Hold{{Tx: 1, Mode: api.S}, {Tx: 2, Mode: api.IX}, {Mode: 5}, {Tx: -1, Mode: -1}}), "1S 2IX 0?5 -1?-1")
	same(t, check.Queued([]api.Wait{{Tx: 1, Seq: 101, Mode: api.X, Up: true}, {Tx: 3, Seq: 103, Mode: api.IS}, {Tx: 4}}), "1.101X^ 3.103IS 4None")
	same(t, check.Edged([]api.Edge{{From: 1, Seq: 101, To: 2}, {From: 3, Seq: 103, To: 1, ToSeq: 101}}), "1.101>2 3.103>1.101")
	same(t, check.Granted([]api.Grant{{Tx: 1, Seq: 101, At: api.Res{Table: 3}, Mode: api.IX}, {Tx: 1, At: api.Res{Table: 3, Row: 14}, Mode: api.X}}), "3:1.101IX 3.14:1X")
}

func TestAt(t *testing.T) {
	for _, r := range []api.Res{{Table: 3}, {Table: 3, Row: 14}, {Table: 250, Row: 250}} {
		if got := check.At(check.Res(r)); got != r {
			t.Errorf("%v, want %v", got, r)
		}
	}
	defer func() {
		if said := recover(); said != "3.0" {
			t.Error(said)
		}
	}()
	t.Error(check.At("3.0"))
}

func TestSent(t *testing.T) {
	same(t, check.Sent(nil), "")
	same(t, check.Sent(check.Others()), "lock 250.250:1048576.1048576X, granted 3:7.9IS, refused 7.9 9, prepare 7, vote 7 1, decide 7 0, ack 7, renew 7, expired 7, wound 7 by 5")
	same(t, check.Sent([]api.Msg{check.Probe(1), check.Down(check.Probe(2)), {Kind: api.KProbe, Next: 5}}), "probe 100.200 > 1000.70, probe 100.200 101.201 > 1000.70, probe  > 5")
	same(t, check.Sent([]api.Msg{{}, {Kind: 12, Tx: 7}, {Kind: -1}}), "?0 0, ?12 7, ?-1 0")
}

func TestSentTo(t *testing.T) {
	same(t, check.SentTo(nil), "")
	same(t, check.SentTo([]api.Msg{{Kind: api.KPrepare, To: 2, Tx: 7}, check.Others()[0]}), "2: prepare 7, 64: lock 250.250:1048576.1048576X")
	for _, m := range append(check.WrongMessages(), api.Msg{Kind: api.KVote, From: 2, Tx: 7}) {
		if !strings.HasSuffix(check.SentTo([]api.Msg{m}), "which may not be") {
			t.Errorf("%+v may be", m)
		}
	}
}

func TestSentToOfWhatMayNotBe(t *testing.T) {
	m := api.Msg{Kind: api.KLock, To: 65, Tx: 7, Seq: 9, At: api.Res{Table: 3, Row: 14}, Mode: api.X}
	same(t, check.SentTo([]api.Msg{m, {}}), "lock from 0 to 65: 7.9 3.14X 0 > 0, 0 steps: 0 0 0 0 0 0 0 0, which may not be, ?0 from 0 to 0: 0 0None 0 > 0, 0 steps: 0 0 0 0 0 0 0 0, which may not be")
	same(t, check.SentTo([]api.Msg{check.Probe(2)}), "probe from 3 to 0: 0 0None 0 > 1000.70, 2 steps: 100.200 101.201 0 0 0 0 0 0, which may not be")
	all := []string{check.SentTo([]api.Msg{{}})}
	for _, number := range numbers(&m) {
		m = api.Msg{}
		*number = -9
		all = append(all, check.SentTo([]api.Msg{m}))
	}
	slices.Sort(all)
	if len(all) != 29 || len(slices.Compact(all)) != 29 { // by each of its numbers it is told as another one
		t.Error(all)
	}
}

// numbers are where all numbers of a message stand.
func numbers(m *api.Msg) []*int {
	all := []*int{&m.Kind, &m.From, &m.To, &m.Tx, &m.Seq, &m.At.Table, &m.At.Row, (*int)(&m.Mode), &m.Code, &m.Next, &m.NextSeq, &m.N}
	for i := range m.Path {
		all = append(all, &m.Path[i].Tx, &m.Path[i].Seq)
	}
	return all
}

func TestTraced(t *testing.T) {
	at := api.Res{Table: 3, Row: 14}
	same(t, check.Traced(nil), "")
	same(t, check.Traced([]api.Event{
		{Kind: api.EvBegan, Client: 2, Tx: 1}, {Kind: api.EvAsked, Tx: 1, At: at, Mode: api.X}, {Kind: api.EvGranted, Tx: 1, At: at, Mode: api.S},
		{Kind: api.EvRefused, Tx: 1, At: at, Code: 9}, {Kind: api.EvFinish, Tx: 1}, {Kind: api.EvCommitted, Tx: 1}, {Kind: api.EvAborted, Tx: 1, Code: 3}, {Kind: api.EvCrashed, Client: 2},
	}), "began 1 client 2, asked 1 3.14X, granted 1 3.14S, refused 1 3.14 9, finish 1, committed 1, aborted 1 3, crashed client 2")
	same(t, check.Traced([]api.Event{{}, {Kind: 9, Mode: 5}, {Kind: -1, Code: -1}, {Kind: api.EvFinish, Client: 1, Tx: -1, At: api.Res{Row: 1}, Mode: api.IX, Code: 7}}), "?0, ?9?5, ?-1 -1, finish -1 client 1 0.1IX 7")
}

// aborted is a transaction that has something of all.
func aborted() txn.Txn {
	return txn.Txn{
		Tx: 7, State: txn.Aborted, Reason: txn.ByWound, Seq: 2, Open: true, Shard: 5, At: check.At("3.14"), Mode: api.X,
		Touched: []int{2, 5}, Votes: []int{2}, Acks: []int{5}, Got: []api.Grant{{Tx: 7, Seq: 1, At: check.At("3"), Mode: api.IS}},
	}
}

func TestTxn(t *testing.T) {
	same(t, check.Txn(txn.Txn{Tx: 7, State: txn.Active}), "7 Active")
	same(t, check.Txn(txn.Txn{State: -1}), "0 ?-1")
	same(t, check.Txn(txn.Txn{Tx: 8, State: txn.Committed, Seq: 1, Shard: 5, At: check.At("3"), Mode: api.S, Touched: []int{5}}), "8 Committed; request 1 of 5: 3S; touched 5")
	same(t, check.Txn(aborted()), "7 Aborted 3; request 2 of 5: 3.14X, open; touched 2 5; votes 2; acks 5; got 3:7.1IS")
}

// changes change a transaction, each by one thing.
func changes() []func(x *txn.Txn) {
	return []func(x *txn.Txn){
		func(x *txn.Txn) { x.Tx++ }, func(x *txn.Txn) { x.State++ }, func(x *txn.Txn) { x.Reason++ }, func(x *txn.Txn) { x.Seq++ }, func(x *txn.Txn) { x.Open = false },
		func(x *txn.Txn) { x.Shard++ }, func(x *txn.Txn) { x.At.Table++ }, func(x *txn.Txn) { x.At.Row++ }, func(x *txn.Txn) { x.Mode-- },
		func(x *txn.Txn) { x.Touched = []int{2} }, func(x *txn.Txn) { x.Votes = nil }, func(x *txn.Txn) { x.Acks = []int{2} }, func(x *txn.Txn) { x.Got = []api.Grant{{}} },
	}
}

func TestSameTxn(t *testing.T) {
	if !check.SameTxn(aborted(), aborted()) || !check.SameTxn(txn.Txn{}, txn.Txn{Touched: []int{}, Got: []api.Grant{}}) {
		t.Error("they aren't the same")
	}
	for i, change := range changes() {
		x := aborted()
		if change(&x); check.SameTxn(x, aborted()) || check.SameTxn(aborted(), x) {
			t.Errorf("%d: %s", i, check.Txn(x))
		}
	}
}

func TestSpoilTxn(t *testing.T) {
	x, empty := aborted(), txn.Txn{Tx: 7}
	if check.IsSpoiled(x) || !check.IsSpoiled(empty) {
		t.Errorf("%s, %s", check.Txn(x), check.Txn(empty))
	}
	if check.SpoilTxn(x); !check.IsSpoiled(x) {
		t.Error(check.Txn(x))
	}
	for i, change := range changes()[9:] {
		one := x
		if change(&one); check.IsSpoiled(one) != (i == 1) { // of votes it has none any more
			t.Errorf("%d: %s", i, check.Txn(one))
		}
	}
}

func TestConfigs(t *testing.T) {
	many := 0
	check.Both(func(c api.Config) {
		if many++; c != check.Roomy(many == 2) || c.Probe != (many == 2) {
			t.Errorf("%+v", c)
		}
		var met []int
		for i, f := range check.Fields() {
			eachOutside(t, f.Wrong(), 1, f.Most, true)
			eachOutside(t, []int{*f.Of(&c)}, 1, f.Most, false)
			*f.Of(&c) = -i
		}
		for _, n := range []int{c.Shards, c.Lease, c.Resend, c.Slots, c.Queue, c.Flight} {
			met = append(met, -n)
		}
		if !slices.Equal(met, check.UpTo(0, 5)) {
			t.Error(met)
		}
	})
	if many != 2 {
		t.Error(many)
	}
}

func TestBeginnings(t *testing.T) {
	met := map[api.Errno]int{}
	check.Beginnings(func(c api.Config, clients int, want api.Errno) {
		met[want]++
		bad := false
		for _, f := range check.Fields() {
			bad = bad || outside(*f.Of(&c), 1, f.Most)
		}
		if bad != (want == api.ErrConfig) || !bad && outside(clients, 1, 8) != (want == api.ErrRange) {
			t.Errorf("%+v, %d: %v", c, clients, want)
		}
	})
	if len(met) != 3 || met[api.OK] != 2*(8+6*4) || met[api.ErrRange] < 1000 || met[api.ErrConfig] < 1000 {
		t.Error(met)
	}
}

func TestEdges(t *testing.T) {
	same(t, check.Edged(check.Edges())+check.Edged(check.Row())+check.Edged(check.Row(7)), "")
	same(t, check.Edged(check.Edges(1, 2, 3, -1)), "1.1000>2 3.998>-1.2")
	same(t, check.Edged(check.Row(5, 1, 5, 5)), "5.1000>1 1.1000>5 5.1000>5")
	for _, l := range [][]int{check.UpTo(-1, 2), check.Ends(check.Edges(2, 0, 0, 1, -1, -1))} {
		if !slices.Equal(l, []int{-1, 0, 1, 2}) {
			t.Error(l)
		}
	}
	if l := slices.Concat(check.UpTo(3, 2), check.Ends(nil)); len(l) != 0 {
		t.Error(l)
	}
}

func TestCircles(t *testing.T) {
	same(t, told(check.Circles(check.Edges(1, 2, 2, 3, 5, 4))), "[]")
	same(t, told(check.Circles(check.Row(7, 3, 7, 7, 3, -1, -2, -1))), "[[-2 -1] [3 7] [7]]")
	same(t, told(check.Circles(check.Row(1, 2, 3, 1, 3, 2, 1, 2))), "[[1 2] [1 2 3] [1 3] [1 3 2] [2 3]]")
	same(t, told(check.Circles(append(check.Row(9, 8, 7, 6, 5, 9, 1), check.Row(4, 3, 4)...))), "[[3 4] [5 9 8 7 6]]")
}

// told are rows of numbers as a text, rising.
func told(l [][]int) string {
	slices.SortFunc(l, slices.Compare)
	return fmt.Sprint(l)
}

func TestMix(t *testing.T) {
	by, met := uint64(1), map[[3]int]bool{}
	for range 100 {
		l := [3]int{1, 2, 3}
		check.Mix(l[:], &by)
		met[l] = true
		slices.Sort(l[:])
		if l != [3]int{1, 2, 3} {
			t.Error(l)
		}
	}
	if len(met) != 6 {
		t.Error(met)
	}
}

func TestEdgeSets(t *testing.T) {
	met := map[int]int{}
	for l := range check.EdgeSets {
		met[len(l)]++
	}
	if met[0] != 2 || met[1] != 9+16 || met[9] != 1+11440 || met[16] != 1 {
		t.Error(met)
	}
	for l := range check.EdgeSets {
		if len(l) == 3 {
			return
		}
	}
	t.Error("no set of three")
}

func TestSomeEdges(t *testing.T) {
	by, met := uint64(1), map[int]int{}
	for range 1000 {
		l := check.SomeEdges(&by)
		met[len(l)]++
		for _, n := range check.Ends(l) {
			if n < 0 || n > 9 {
				t.Error(check.Edged(l))
			}
		}
	}
	for many := range 21 {
		if met[many] == 0 {
			t.Errorf("none of %d", many)
		}
	}
}

func TestSpoil(t *testing.T) {
	room := []int{1, 2, 3, 4, 5}
	check.Spoil(room[1:2:4], 9)
	if !slices.Equal(room, []int{1, 9, 9, 9, 5}) {
		t.Error(room)
	}
	check.Spoil(nil, 9)
}

// stopped is a test that failed or not, and what was done to it.
type stopped struct{ failed, ended bool }

func (s *stopped) Helper()      {}
func (s *stopped) Failed() bool { return s.failed }
func (s *stopped) FailNow()     { s.ended = true }

func TestStop(t *testing.T) {
	for _, failed := range []bool{false, true} {
		s := &stopped{failed: failed}
		check.Stop(s)
		if s.ended != failed {
			t.Errorf("failed: %v, ended: %v", failed, s.ended)
		}
	}
}

func TestFarFrom(t *testing.T) {
	for _, may := range [][2]int{{0, 0}, {1, 8}, {0, 250}, {1, api.MaxTx}} {
		low, high := may[0], may[1]
		l := check.FarFrom(low, high)
		eachOutside(t, l, low, high, true)
		for _, n := range []int{low - 1, high + 1, low - 256, high + 65536, low + 1<<32, math.MinInt, math.MaxInt} {
			if !slices.Contains(l, n) {
				t.Errorf("%d to %d: not %d", low, high, n)
			}
		}
	}
}

func TestValues(t *testing.T) {
	eachOutside(t, check.WrongLimits(), 1, api.MaxQueue, true)
	eachOutside(t, check.Numbers(), 1, api.MaxTx, false)
	eachOutside(t, check.WrongNumbers(), 1, api.MaxTx, true)
	eachOutside(t, asNumbers(check.Modes()), 1, int(api.X), false)
	eachOutside(t, asNumbers(check.WrongModes()), 1, int(api.X), true)
	eachOutside(t, check.Times(), 0, 1<<40, false)
	eachOutside(t, check.NoTimes(), 0, 1<<40, true)
	for _, r := range check.WrongResources() {
		if res.Ok(r) {
			t.Errorf("%v may be", r)
		}
	}
}

// kinds are those of messages, of which it checks that all may be, or that none may.
func kinds(t *testing.T, l []api.Msg, may bool) []int {
	t.Helper()
	var all []int
	for _, m := range l {
		if (msg.Ok(m) == nil) != may {
			t.Errorf("may be: %v: %+v", !may, m)
		}
		all = append(all, m.Kind)
	}
	slices.Sort(all)
	return slices.Compact(all)
}

func TestMessages(t *testing.T) {
	if all, others := kinds(t, check.Messages(), true), kinds(t, check.Others(), true); !slices.Equal(all, check.UpTo(1, 11)) || !slices.Equal(others, check.UpTo(1, 10)) {
		t.Error(all, others)
	}
	kinds(t, append(check.WrongMessages(), check.WrongProbes()...), false)
	for n := 1; n <= 8; n++ {
		kinds(t, []api.Msg{check.Probe(n), check.Down(check.Probe(n))}, true)
	}
}
