package net_test

import (
	"math"
	"math/big"
	"slices"
	"testing"

	"catchbolt/api"
	"catchbolt/check"
	"catchbolt/net"
)

// numbers are raw ones: around none, around how many the tests let be on their way, and far beyond both ways, to the edges of int; some would pick another one if they were cut.
var numbers = []int{
	math.MinInt64, math.MinInt64 + 1, math.MinInt64 + 2, math.MinInt64 + 7, -1<<62 - 1, -1 << 62, -1<<53 - 1, -1<<40 - 3,
	-1<<32 - 1, -1 << 32, -1<<32 + 1, math.MinInt32 - 1, math.MinInt32, -1<<16 - 1, -65536, -1000, -257, -256, -255,
	-17, -16, -15, -14, -13, -12, -11, -10, -9, -8, -7, -6, -5, -4, -3, -2, -1,
	0, 1, 2, 3, 4, 5, 6, 7, 8, 9, 10, 11, 12, 13, 14, 15, 16, 17,
	127, 128, 254, 255, 256, 257, 1000, 65535, 65536, 65537, math.MaxInt32, math.MaxInt32 + 1,
	1<<32 - 1, 1 << 32, 1<<32 + 1, 1<<40 + 3, 1<<53 + 1, 1 << 62, math.MaxInt64 - 7, math.MaxInt64 - 1, math.MaxInt64,
}

// wrongLimits are those that may not be; some would be near if they were cut.
var wrongLimits = []int{
	math.MinInt64, math.MinInt64 + 1, math.MinInt64 + 5, -1<<32 + 1, -1<<32 + 65536, math.MinInt32, -65537, -65536, -65535, -256, -255, -2, -1,
	0, 65537, 65538, 1<<17 - 1, 1 << 17, 1<<17 + 1, math.MaxInt32, 1 << 32, 1<<32 + 1, 1<<32 + 65536, 1 << 48, math.MaxInt64,
}

// one is a message that may be, another one for each number from 0 on.
func one(i int) api.Msg {
	return api.Msg{Kind: api.KLock, To: 1 + i%64, Tx: 1 + i%1048576, Seq: 9, At: api.Res{Table: 3, Row: 14}, Mode: api.X}
}

// some are so many messages.
func some(many int) []api.Msg {
	var l []api.Msg
	for i := range many {
		l = append(l, one(i))
	}
	return l
}

// empty is a net without messages.
func empty(t *testing.T, limit int) *net.Net {
	t.Helper()
	n, err := net.New(limit)
	if n == nil || err != nil {
		t.Fatalf("New(%d) = %v, %v", limit, n, err)
	}
	return n
}

// sent is a net to which messages were sent.
func sent(t *testing.T, limit int, l ...api.Msg) *net.Net {
	t.Helper()
	n := empty(t, limit)
	for _, m := range l {
		sends(t, n, m)
	}
	return n
}

// sends checks that a message may be sent.
func sends(t *testing.T, n *net.Net, m api.Msg) {
	t.Helper()
	if err := n.Send(m); err != nil {
		t.Fatalf("Send(%v) = %v, of %d", m, err, n.Len())
	}
}

// fails checks an error, and that behind it those messages are on their way.
func fails(t *testing.T, n *net.Net, err error, want api.Errno, l ...api.Msg) {
	t.Helper()
	if !check.Plain(err, want) {
		t.Errorf("%v, want %v", err, want)
	}
	has(t, n, l...)
}

// has checks that those messages are on their way, in that order.
func has(t *testing.T, n *net.Net, l ...api.Msg) {
	t.Helper()
	if n.Len() != len(l) || !slices.Equal(n.All(), l) {
		t.Errorf("of %d there are %d: %v, want %v", len(l), n.Len(), txs(n.All()), txs(l))
	}
}

// delivers checks what a raw number delivers.
func delivers(t *testing.T, n *net.Net, k int, want api.Msg) {
	t.Helper()
	if m, err := n.Deliver(k); m != want || err != nil {
		t.Errorf("Deliver(%d) = %v, %v, want %v", k, m, err, want)
	}
}

// deliversNone checks that a raw number delivers nothing.
func deliversNone(t *testing.T, n *net.Net, k int, want api.Errno) {
	t.Helper()
	if m, err := n.Deliver(k); m != (api.Msg{}) || !check.Plain(err, want) {
		t.Errorf("Deliver(%d) = %v, %v, want %v", k, m, err, want)
	}
}

// drops checks that one is dropped.
func drops(t *testing.T, n *net.Net, k int) {
	t.Helper()
	if err := n.Drop(k); err != nil {
		t.Errorf("Drop(%d) = %v", k, err)
	}
}

// doubles checks that one is doubled.
func doubles(t *testing.T, n *net.Net, k int) {
	t.Helper()
	if err := n.Twice(k); err != nil {
		t.Errorf("Twice(%d) = %v", k, err)
	}
}

// txs are messages' transactions, by which the tests' ones are told apart.
func txs(l []api.Msg) []int {
	var all []int
	for _, m := range l[:min(len(l), 20)] {
		all = append(all, m.Tx)
	}
	return all
}

// picked is the place that a raw number picks of so many, by numbers without an edge.
func picked(k, many int) int {
	return int(new(big.Int).Mod(big.NewInt(int64(k)), big.NewInt(int64(many))).Int64())
}

// without are messages without the one at a place.
func without(l []api.Msg, place int) []api.Msg {
	return append(slices.Clone(l[:place]), l[place+1:]...)
}

// P5.1

func TestNewOfLimits(t *testing.T) {
	for _, limit := range []int{1, 2, 3, 64, 255, 256, 257, 4096, 32767, 32768, 65534, 65535, 65536} {
		has(t, empty(t, limit))
	}
	for _, limit := range wrongLimits {
		if n, err := net.New(limit); n != nil || !check.Plain(err, api.ErrRange) {
			t.Errorf("New(%d) = %v, %v", limit, n, err)
		}
	}
}

func TestSendStandsBehindAllOthers(t *testing.T) {
	l := some(9)
	n := empty(t, 20)
	for i, m := range l {
		sends(t, n, m)
		has(t, n, l[:i+1]...)
	}
	sends(t, n, l[4])
	has(t, n, append(l, l[4])...)
}

func TestSendOfEachKind(t *testing.T) {
	l := check.Messages()
	n := sent(t, len(l), l...)
	has(t, n, l...)
	for _, m := range l {
		delivers(t, n, 0, m)
	}
}

func TestSendOfOnesThatMayNotBe(t *testing.T) {
	l := some(3)
	for i, m := range check.WrongMessages() {
		for _, n := range []*net.Net{sent(t, 3), sent(t, 4, l...), sent(t, 65536, l...)} {
			ahead := n.All()
			if err := n.Send(m); !check.Plain(err, api.ErrForm) {
				t.Errorf("Send of wrong one %d: %v", i, err)
			}
			has(t, n, ahead...)
		}
	}
}

func TestSendToAFullNet(t *testing.T) {
	for limit := 1; limit <= 20; limit++ {
		l := some(limit)
		n := sent(t, limit, l...)
		for _, m := range check.Messages() {
			fails(t, n, n.Send(m), api.ErrFull, l...)
		}
		fails(t, n, n.Send(l[0]), api.ErrFull, l...)
	}
}

func TestSendOfOnesThatMayNotBeToAFullNet(t *testing.T) {
	for _, limit := range []int{1, 3} {
		l := some(limit)
		n := sent(t, limit, l...)
		for _, m := range check.WrongMessages() {
			fails(t, n, n.Send(m), api.ErrForm, l...)
		}
		fails(t, n, n.Send(one(7)), api.ErrFull, l...)
	}
}

func TestFullNetHasRoomAgain(t *testing.T) {
	l := some(4)
	for _, free := range []func(n *net.Net){
		func(n *net.Net) { delivers(t, n, 1, l[1]) },
		func(n *net.Net) { drops(t, n, 1) },
	} {
		n := sent(t, 3, l[:3]...)
		free(n)
		has(t, n, l[0], l[2])
		sends(t, n, l[3])
		fails(t, n, n.Send(l[1]), api.ErrFull, l[0], l[2], l[3])
	}
	n := sent(t, 3, l[:3]...)
	n.Take()
	for _, m := range l[1:] {
		sends(t, n, m)
	}
	fails(t, n, n.Send(l[0]), api.ErrFull, l[1:]...)
}

func TestTheGreatestNet(t *testing.T) {
	l := some(65536)
	n := sent(t, 65536, l[:65535]...)
	has(t, n, l[:65535]...)
	sends(t, n, l[65535])
	fails(t, n, n.Send(one(7)), api.ErrFull, l...)
	fails(t, n, n.Send(api.Msg{}), api.ErrForm, l...)
	fails(t, n, n.Twice(7), api.ErrFull, l...)
	for i := range 32768 {
		delivers(t, n, 0, l[i])
		delivers(t, n, -1, l[65535-i])
	}
	has(t, n)
}

// P5.2

// eachPick does something for nets of so many messages and for all raw numbers.
func eachPick(most int, do func(l []api.Msg, k, place int)) {
	for many := 1; many <= most; many++ {
		l := some(many)
		for _, k := range numbers {
			do(l, k, picked(k, many))
		}
	}
}

func TestDeliverOfEachNumber(t *testing.T) {
	eachPick(13, func(l []api.Msg, k, place int) {
		n := sent(t, 13, l...)
		delivers(t, n, k, l[place])
		has(t, n, without(l, place)...)
	})
}

func TestDropOfEachNumber(t *testing.T) {
	eachPick(13, func(l []api.Msg, k, place int) {
		n := sent(t, 13, l...)
		drops(t, n, k)
		has(t, n, without(l, place)...)
	})
}

func TestTwiceOfEachNumber(t *testing.T) {
	eachPick(13, func(l []api.Msg, k, place int) {
		n := sent(t, 14, l...)
		doubles(t, n, k)
		has(t, n, append(l, l[place])...)
	})
}

func TestPicksOfMany(t *testing.T) {
	l := some(65536)
	for _, many := range []int{255, 256, 257, 65535, 65536} {
		n := sent(t, 65536, l[:many]...)
		left := slices.Clone(l[:many])
		for _, k := range append([]int{many - 3, many - 1, many, 4 - many, -many, -2 * many}, numbers...) {
			place := picked(k, len(left))
			delivers(t, n, k, left[place])
			left = slices.Delete(left, place, place+1)
		}
		has(t, n, left...)
	}
}

func TestPicksByHand(t *testing.T) {
	l := some(3)
	for k, place := range map[int]int{
		0: 0, 1: 1, 2: 2, 3: 0, 4: 1, 5: 2, 6: 0, 100: 1,
		-1: 2, -2: 1, -3: 0, -4: 2, -5: 1, -6: 0, -100: 2,
		math.MaxInt64: 1, math.MaxInt64 - 1: 0, math.MinInt64: 1, math.MinInt64 + 1: 2,
	} {
		delivers(t, sent(t, 3, l...), k, l[place])
	}
}

func TestAllPicksOfTheOnlyOne(t *testing.T) {
	for _, k := range numbers {
		n := sent(t, 1, check.Probe(8))
		fails(t, n, n.Twice(k), api.ErrFull, check.Probe(8))
		delivers(t, n, k, check.Probe(8))
		has(t, n)
		sends(t, n, check.Probe(8))
		drops(t, n, k)
		has(t, n)
		n = sent(t, 2, check.Probe(8))
		doubles(t, n, k)
		has(t, n, check.Probe(8), check.Probe(8))
	}
}

func TestPicksOfNone(t *testing.T) {
	l := some(2)
	none := func(n *net.Net) {
		for _, k := range numbers {
			deliversNone(t, n, k, api.ErrNone)
			fails(t, n, n.Drop(k), api.ErrNone)
			fails(t, n, n.Twice(k), api.ErrNone)
		}
	}
	for _, limit := range []int{1, 2, 65536} {
		none(empty(t, limit))
	}
	n := sent(t, 2, l...)
	delivers(t, n, 1, l[1])
	delivers(t, n, 1, l[0])
	none(n)
	sends(t, n, l[0])
	drops(t, n, 5)
	none(n)
	sends(t, n, l[1])
	n.Take()
	none(n)
	sends(t, n, l[1])
	delivers(t, n, 0, l[1])
}

func TestTwiceInAFullNet(t *testing.T) {
	for limit := 1; limit <= 13; limit++ {
		l := some(limit)
		n := sent(t, limit, l...)
		for _, k := range numbers {
			fails(t, n, n.Twice(k), api.ErrFull, l...)
		}
	}
}

func TestTwiceFillsANet(t *testing.T) {
	n := sent(t, 5, one(0), one(1))
	doubles(t, n, 0)
	doubles(t, n, 2)
	doubles(t, n, 1)
	l := []api.Msg{one(0), one(1), one(0), one(0), one(1)}
	has(t, n, l...)
	fails(t, n, n.Twice(1), api.ErrFull, l...)
	fails(t, n, n.Send(one(2)), api.ErrFull, l...)
	drops(t, n, 0)
	doubles(t, n, 0)
	has(t, n, one(1), one(0), one(0), one(1), one(1))
}

func TestADoubledOneIsThereByItself(t *testing.T) {
	for _, k := range []int{0, 1} {
		n := sent(t, 3, check.Probe(8))
		doubles(t, n, 0)
		delivers(t, n, k, check.Probe(8))
		has(t, n, check.Probe(8))
		doubles(t, n, 0)
		drops(t, n, k)
		delivers(t, n, k, check.Probe(8))
		has(t, n)
	}
}

func TestEqualOnesGoOneByOne(t *testing.T) {
	a, b := one(0), one(1)
	n := sent(t, 9, a, b, a, b, a)
	delivers(t, n, 2, a)
	has(t, n, a, b, b, a)
	drops(t, n, 2)
	has(t, n, a, b, a)
	drops(t, n, 0)
	has(t, n, b, a)
}

// P5.3

func TestAllTakesNothing(t *testing.T) {
	l := some(5)
	n := sent(t, 5, l...)
	for range 3 {
		has(t, n, l...)
	}
	delivers(t, n, 2, l[2])
	has(t, n, without(l, 2)...)
}

func TestTakeTakesAll(t *testing.T) {
	for many := range 12 {
		l := some(many)
		n := sent(t, 12, l...)
		if got := n.Take(); !slices.Equal(got, l) {
			t.Errorf("Take() = %v, want %v", txs(got), txs(l))
		}
		has(t, n)
		if got := n.Take(); len(got) != 0 {
			t.Errorf("Take() once more = %v", txs(got))
		}
		for _, m := range l {
			sends(t, n, m)
		}
		has(t, n, l...)
	}
}

func TestTakeLeavesTheLimit(t *testing.T) {
	l := some(3)
	n := sent(t, 3, l...)
	for range 4 {
		for _, m := range n.Take() {
			sends(t, n, m)
		}
		fails(t, n, n.Send(one(7)), api.ErrFull, l...)
		fails(t, n, n.Twice(7), api.ErrFull, l...)
	}
}

func TestTakeBehindAllElse(t *testing.T) {
	l := some(6)
	n := sent(t, 6, l...)
	delivers(t, n, 0, l[0])
	drops(t, n, 1)
	doubles(t, n, 1)
	want := []api.Msg{l[1], l[3], l[4], l[5], l[3]}
	has(t, n, want...)
	if got := n.Take(); !slices.Equal(got, want) {
		t.Errorf("Take() = %v, want %v", txs(got), txs(want))
	}
	has(t, n)
}

// wrongOne is a message that may not be, by which tests spoil lists.
var wrongOne = api.Msg{Kind: 99, Tx: -1, Path: [api.MaxPath]api.Step{{Tx: 77}}}

func TestWhatIsToldIsTheNetsOwnNoMore(t *testing.T) {
	l := append(some(5), check.Probe(8))
	n := sent(t, 20, l...)
	check.Spoil(n.All(), wrongOne)
	has(t, n, l...)
	_ = append(n.All(), one(9))
	_ = append(n.All()[:2], one(9))
	has(t, n, l...)
	taken := n.Take()
	for _, m := range l {
		sends(t, n, m)
	}
	check.Spoil(taken, wrongOne)
	has(t, n, l...)
	m, _ := n.Deliver(5)
	m.Path[3].Tx = 7
	doubles(t, n, 4)
	check.Spoil(n.All(), wrongOne)
	has(t, n, l[0], l[1], l[2], l[3], l[4], l[4])
}

func TestWhatWasToldStaysAsItWas(t *testing.T) {
	l := some(6)
	n := sent(t, 9, l[:5]...)
	first, second := n.All(), n.All()
	check.Spoil(second, wrongOne)
	delivers(t, n, 0, l[0])
	drops(t, n, 2)
	doubles(t, n, 0)
	sends(t, n, l[5])
	if !slices.Equal(first, l[:5]) {
		t.Errorf("All() was %v, is %v now", txs(l[:5]), txs(first))
	}
	taken := n.Take()
	want := slices.Clone(taken)
	for _, m := range []api.Msg{l[5], check.Probe(8), l[0], l[1], l[2], l[3], l[4]} {
		sends(t, n, m)
	}
	drops(t, n, 1)
	n.Take()
	if !slices.Equal(taken, want) {
		t.Errorf("Take() was %v, is %v now", txs(want), txs(taken))
	}
}

func TestWhatIsSentIsNotKept(t *testing.T) {
	m := check.Probe(8)
	n := sent(t, 4, m)
	m.Path[0].Tx, m.Next = 5, 6
	sends(t, n, m)
	m.Path[0].Tx, m.Next = 7, 8
	second := check.Probe(8)
	second.Path[0].Tx, second.Next = 5, 6
	has(t, n, check.Probe(8), second)
}

func TestNetsAreApart(t *testing.T) {
	a, b := sent(t, 3, one(0)), sent(t, 4, one(1), one(2))
	c := empty(t, 3)
	drops(t, b, 0)
	doubles(t, a, 0)
	has(t, a, one(0), one(0))
	has(t, b, one(2))
	has(t, c)
	a.Take()
	has(t, b, one(2))
	fails(t, c, c.Drop(0), api.ErrNone)
}

func TestNilNet(t *testing.T) {
	var n *net.Net
	for _, m := range append(check.Messages(), check.WrongMessages()...) {
		fails(t, n, n.Send(m), api.ErrArg)
	}
	for _, k := range numbers {
		deliversNone(t, n, k, api.ErrArg)
		fails(t, n, n.Drop(k), api.ErrArg)
		fails(t, n, n.Twice(k), api.ErrArg)
	}
	if all, taken := n.All(), n.Take(); len(all) != 0 || len(taken) != 0 || n.Len() != 0 {
		t.Errorf("nil net: %v, %v, %d", all, taken, n.Len())
	}
}

// P5.4

// book is what was done to a net, as the document tells it: what is on its way, and how often each was sent or doubled, and delivered.
type book struct {
	limit     int
	way       []api.Msg
	got, told map[api.Msg]int
}

// send, deliver, drop and double do likewise to the book as to the net, and check that both say the same.
func (b *book) send(t *testing.T, n *net.Net, m api.Msg) {
	err := n.Send(m)
	if len(b.way) == b.limit {
		fails(t, n, err, api.ErrFull, b.way...)
		return
	}
	if err != nil {
		t.Fatalf("Send(%v) = %v, of %d", m, err, len(b.way))
	}
	b.way = append(b.way, m)
	b.got[m]++
}

func (b *book) deliver(t *testing.T, n *net.Net, k int) {
	if len(b.way) == 0 {
		deliversNone(t, n, k, api.ErrNone)
		return
	}
	place := picked(k, len(b.way))
	m, err := n.Deliver(k)
	if m != b.way[place] || err != nil {
		t.Fatalf("Deliver(%d) = %v, %v, want %v", k, m, err, b.way[place])
	}
	b.told[m]++
	b.way = without(b.way, place)
}

func (b *book) drop(t *testing.T, n *net.Net, k int) {
	err := n.Drop(k)
	if len(b.way) == 0 {
		fails(t, n, err, api.ErrNone)
		return
	}
	if err != nil {
		t.Fatalf("Drop(%d) = %v", k, err)
	}
	b.way = without(b.way, picked(k, len(b.way)))
}

func (b *book) double(t *testing.T, n *net.Net, k int) {
	err := n.Twice(k)
	switch {
	case len(b.way) == 0:
		fails(t, n, err, api.ErrNone)
	case len(b.way) == b.limit:
		fails(t, n, err, api.ErrFull, b.way...)
	case err != nil:
		t.Fatalf("Twice(%d) = %v", k, err)
	default:
		m := b.way[picked(k, len(b.way))]
		b.way = append(b.way, m)
		b.got[m]++
	}
}

// step does one thing, which a number tells.
func (b *book) step(t *testing.T, n *net.Net, by uint64) {
	k := int(by * 2862933555777941757)
	switch by >> 20 % 16 {
	case 0, 1, 2, 3, 4:
		b.send(t, n, one(int(by>>30%40)))
	case 5, 6, 7, 8:
		b.deliver(t, n, k)
	case 9, 10:
		b.drop(t, n, k)
	case 11, 12, 13:
		b.double(t, n, k)
	case 14:
		l := n.All()
		if len(l) != n.Len() {
			t.Fatalf("%d of %d", len(l), n.Len())
		}
		check.Spoil(l, wrongOne)
	default:
		if by>>40%8 == 0 {
			b.way = nil
			check.Spoil(n.Take(), wrongOne)
		}
	}
}

func TestWhatIsDeliveredWasSent(t *testing.T) {
	for _, limit := range []int{1, 2, 3, 5, 8, 13, 64, 1000} {
		n := empty(t, limit)
		b := book{limit: limit, got: map[api.Msg]int{}, told: map[api.Msg]int{}}
		by := uint64(limit)
		for range 3000 {
			by = by*6364136223846793005 + 1442695040888963407
			b.step(t, n, by)
			has(t, n, b.way...)
		}
		for m, times := range b.told {
			if times > b.got[m] {
				t.Errorf("limit %d: delivered %d times, sent and doubled %d times: %v", limit, times, b.got[m], m)
			}
		}
	}
}

// The document's examples.

func TestExamples(t *testing.T) {
	a, b, c := one(0), one(1), one(2)
	n := sent(t, 3, a, b, c)
	delivers(t, n, 4, b)
	doubles(t, n, -1)
	has(t, n, a, c, c)
}
