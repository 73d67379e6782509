package client_test

import (
	"fmt"
	"math"
	"slices"
	"sort"
	"strings"
	"testing"

	"catchbolt/api"
	"catchbolt/check"
	"catchbolt/client"
)

// maxTime is the greatest time.
const maxTime = check.MaxTime

// The numbers of the tests.
var (
	numbers, wrongNumbers = check.Numbers(), check.WrongNumbers()
	times, noTimes        = check.Times(), check.NoTimes()
)

// mixed are transactions that don't rise, one for each client; as texts they would stand in another order, too.
var mixed = []int{100, 9, 1048576, 10, 1, 65536, 99, 2}

// wrong are numbers that none of so many clients has; some would be theirs if they were cut.
func wrong(many int) []int {
	l := []int{math.MinInt64, math.MinInt64 + 1, -1<<32 + 1, math.MinInt32, -256, -255, -8, -7, -2, -1, 0}
	for id := many + 1; id <= 18; id++ {
		l = append(l, id)
	}
	return append(l, 255, 256, 257, 256+8, 65537, 1048576, math.MaxInt32, 1<<32, 1<<32+1, 1<<32+8, 1<<48+1, math.MaxInt64-7, math.MaxInt64)
}

// made are so many clients.
func made(t *testing.T, many int) *client.Clients {
	t.Helper()
	c, err := client.New(many)
	if c == nil || err != nil {
		t.Fatalf("New(%d) = %v, %v", many, c, err)
	}
	return c
}

// with are so many clients, of which the first ones have those transactions.
func with(t *testing.T, many int, txs ...int) *client.Clients {
	t.Helper()
	c := made(t, many)
	for i, tx := range txs {
		begins(t, c, i+1, tx)
	}
	return c
}

// since is since when the client of a transaction is dead, as Lost tells by one span or the other; maxTime + 1, if it isn't.
func since(c *client.Clients, tx int) int {
	spared := sort.Search(maxTime+1, func(span int) bool { return !slices.Contains(c.Lost(maxTime, span), tx) })
	return maxTime + 1 - spared
}

// whole is all that clients tell, as a text.
func whole(c *client.Clients) string {
	var all []string
	for id := -1; id <= 10; id++ {
		tx, err := c.Now(id)
		whose, none := c.Of(tx)
		all = append(all, fmt.Sprint(id, c.Alive(id), tx, err, whose, none, since(c, tx)))
	}
	return strings.Join(all, "; ")
}

// refused checks that a call changes nothing, and has that error.
func refused(t *testing.T, c *client.Clients, what string, want api.Errno, call func() error) {
	t.Helper()
	before := whole(c)
	if err := call(); !check.Plain(err, want) {
		t.Errorf("%s = %v, want %v, of %s", what, err, want, before)
	}
	if after := whole(c); after != before {
		t.Errorf("%s changes %s to %s", what, before, after)
	}
}

// begins checks that a client may have a transaction, and gives it to it.
func begins(t *testing.T, c *client.Clients, id, tx int) {
	t.Helper()
	if err := c.Begin(id, tx); err != nil {
		t.Errorf("Begin(%d, %d) = %v", id, tx, err)
	}
	has(t, c, id, tx)
}

// beginsNot checks that a client may not have a transaction, by that error.
func beginsNot(t *testing.T, c *client.Clients, id, tx int, want api.Errno) {
	t.Helper()
	refused(t, c, fmt.Sprintf("Begin(%d, %d)", id, tx), want, func() error { return c.Begin(id, tx) })
}

// has checks that a client has a transaction, and that the transaction is its.
func has(t *testing.T, c *client.Clients, id, tx int) {
	t.Helper()
	if got, err := c.Now(id); got != tx || err != nil {
		t.Errorf("Now(%d) = %d, %v, want %d", id, got, err, tx)
	}
	if got, err := c.Of(tx); got != id || err != nil {
		t.Errorf("Of(%d) = %d, %v, want %d", tx, got, err, id)
	}
}

// hasNone checks that clients have no transactions.
func hasNone(t *testing.T, c *client.Clients, ids ...int) {
	t.Helper()
	for _, id := range ids {
		if tx, err := c.Now(id); tx != 0 || !check.Plain(err, api.ErrNone) {
			t.Errorf("Now(%d) = %d, %v", id, tx, err)
		}
	}
}

// ends checks that a transaction is a client's, and ends it.
func ends(t *testing.T, c *client.Clients, id, tx int) {
	t.Helper()
	has(t, c, id, tx)
	if err := c.End(tx); err != nil {
		t.Errorf("End(%d) = %v", tx, err)
	}
	hasNone(t, c, id)
	nobodys(t, c, tx)
}

// nobodys checks that transactions are nobody's.
func nobodys(t *testing.T, c *client.Clients, txs ...int) {
	t.Helper()
	for _, tx := range txs {
		if id, err := c.Of(tx); id != 0 || !check.Plain(err, api.ErrNone) {
			t.Errorf("Of(%d) = %d, %v", tx, id, err)
		}
		refused(t, c, fmt.Sprintf("End(%d)", tx), api.ErrNone, func() error { return c.End(tx) })
	}
}

// crashes checks that a client may crash, and keeps its transaction, and lets it.
func crashes(t *testing.T, c *client.Clients, id, now int) {
	t.Helper()
	tx, none := c.Now(id)
	if err := c.Crash(id, now); err != nil {
		t.Errorf("Crash(%d, %d) = %v", id, now, err)
	}
	if c.Alive(id) {
		t.Errorf("Alive(%d), which crashed", id)
	}
	if none == nil {
		has(t, c, id, tx)
	} else {
		hasNone(t, c, id)
	}
}

// crashesNot checks that a client may not crash, by that error.
func crashesNot(t *testing.T, c *client.Clients, id, now int, want api.Errno) {
	t.Helper()
	refused(t, c, fmt.Sprintf("Crash(%d, %d)", id, now), want, func() error { return c.Crash(id, now) })
}

// alive checks which of so many clients are alive, and that nobody else is.
func alive(t *testing.T, c *client.Clients, many int, want ...int) {
	t.Helper()
	for _, id := range append(check.UpTo(1, many), wrong(many)...) {
		if got := c.Alive(id); got != slices.Contains(want, id) {
			t.Errorf("Alive(%d) = %v", id, got)
		}
	}
}

// lost checks which transactions are lost.
func lost(t *testing.T, c *client.Clients, now, span int, want ...int) {
	t.Helper()
	if got := c.Lost(now, span); !slices.Equal(got, want) {
		t.Errorf("Lost(%d, %d) = %v, want %v", now, span, got, want)
	}
}

// rising are numbers in their order.
func rising(l []int) []int { return slices.Sorted(slices.Values(l)) }

// P16.1

func TestNewOfEachNumber(t *testing.T) {
	for many := 1; many <= 8; many++ {
		c := made(t, many)
		alive(t, c, many, check.UpTo(1, many)...)
		hasNone(t, c, append(check.UpTo(1, many), wrong(many)...)...)
		nobodys(t, c, slices.Concat(numbers, wrongNumbers)...)
		for _, now := range times {
			lost(t, c, now, 0)
		}
	}
	for _, many := range wrong(8) {
		if c, err := client.New(many); c != nil || !check.Plain(err, api.ErrRange) {
			t.Errorf("New(%d) = %v, %v", many, c, err)
		}
	}
}

func TestBeginOfEachClientAndEachTransaction(t *testing.T) {
	for many := 1; many <= 8; many++ {
		for id := 1; id <= many; id++ {
			for _, tx := range numbers {
				c := made(t, many)
				begins(t, c, id, tx)
				hasNone(t, c, append(wrong(many), check.UpTo(1, id-1)...)...)
				hasNone(t, c, check.UpTo(id+1, many)...)
				nobodys(t, c, tx-1, tx+1, -tx, tx+1<<32)
				alive(t, c, many, check.UpTo(1, many)...)
			}
		}
	}
}

func TestEachHasItsOwn(t *testing.T) {
	for first := range mixed {
		txs := slices.Concat(mixed[first:], mixed[:first])
		c := with(t, 8, txs...)
		for i, tx := range txs {
			has(t, c, i+1, tx)
		}
		for i, tx := range txs {
			ends(t, c, i+1, tx)
			for k := i + 1; k < len(txs); k++ {
				has(t, c, k+1, txs[k])
			}
		}
		hasNone(t, c, check.UpTo(1, 8)...)
	}
}

func TestBeginOfNoClient(t *testing.T) {
	for many := 1; many <= 8; many++ {
		c := with(t, many, 7)
		for _, id := range wrong(many) {
			for _, tx := range []int{1, 7, 8, 1048576, 0, -1, 1048577, math.MinInt64, math.MaxInt64} {
				beginsNot(t, c, id, tx, api.ErrNone)
			}
			hasNone(t, c, id)
		}
		has(t, c, 1, 7)
	}
}

func TestBeginOfNoTransaction(t *testing.T) {
	c := with(t, 3, 7)
	crashes(t, c, 3, 10)
	for _, tx := range wrongNumbers {
		for id := 1; id <= 3; id++ { // one that has one, one that may have one, and one that is dead
			beginsNot(t, c, id, tx, api.ErrArg)
		}
		nobodys(t, c, tx)
	}
	has(t, c, 1, 7)
	hasNone(t, c, 2, 3)
}

// beginErrors are Begin's, of four clients of which 1 has 7, 3 has 9 and is dead, and 4 is dead and has none: each alone, and each with others behind it.
var beginErrors = []struct {
	ids, txs []int
	want     api.Errno
}{
	{[]int{0, 5, -1, 9}, []int{8, 7, 9, 0, -1, 1048577}, api.ErrNone},
	{[]int{1, 2, 3, 4}, []int{0, -1, 1048577}, api.ErrArg},
	{[]int{3, 4}, []int{8, 7, 9}, api.ErrState},
	{[]int{1}, []int{8, 7, 9}, api.ErrBusy},
	{[]int{2}, []int{7, 9}, api.ErrDone},
}

func TestErrorsOfBeginInTheirOrder(t *testing.T) {
	for _, q := range beginErrors {
		for _, id := range q.ids {
			for _, tx := range q.txs {
				c := made(t, 4)
				begins(t, c, 1, 7)
				begins(t, c, 3, 9)
				crashes(t, c, 3, 10)
				crashes(t, c, 4, 10)
				beginsNot(t, c, id, tx, q.want)
				has(t, c, 1, 7)
				has(t, c, 3, 9)
				begins(t, c, 2, 8) // the only one that may
			}
		}
	}
}

func TestWhoHasOneBeginsNoOther(t *testing.T) {
	for _, first := range numbers {
		c := with(t, 2, first)
		for _, second := range numbers {
			beginsNot(t, c, 1, second, api.ErrBusy)
		}
		beginsNot(t, c, 2, first, api.ErrDone)
		has(t, c, 1, first)
		hasNone(t, c, 2)
	}
}

func TestWhatIsAClientsIsNoOthers(t *testing.T) {
	for whose := 1; whose <= 8; whose++ {
		c := made(t, 8)
		begins(t, c, whose, 7)
		for id := 1; id <= 8; id++ {
			if id != whose {
				beginsNot(t, c, id, 7, api.ErrDone)
			}
		}
		crashes(t, c, whose, 10) // it stays its
		for id := 1; id <= 8; id++ {
			if id != whose {
				beginsNot(t, c, id, 7, api.ErrDone)
			}
		}
		has(t, c, whose, 7)
	}
}

func TestWhoEndedItsBeginsAgain(t *testing.T) {
	for _, first := range numbers {
		c := with(t, 2, first)
		ends(t, c, 1, first)
		begins(t, c, 1, first)
		ends(t, c, 1, first)
		for _, second := range numbers {
			begins(t, c, 1, second)
			ends(t, c, 1, second)
		}
		begins(t, c, 2, first) // it is somebody else's, now
		beginsNot(t, c, 1, first, api.ErrDone)
	}
}

func TestEndOfADeadOnes(t *testing.T) {
	c := with(t, 2, 7)
	crashes(t, c, 1, 10)
	ends(t, c, 1, 7)
	beginsNot(t, c, 1, 7, api.ErrState)
	beginsNot(t, c, 1, 8, api.ErrState)
	begins(t, c, 2, 7)
	has(t, c, 2, 7)
	alive(t, c, 2, 2)
}

func TestWhatIsNobodys(t *testing.T) {
	for _, c := range []*client.Clients{made(t, 1), made(t, 8), with(t, 2, 1048575), with(t, 8, 11, 12, 13, 14, 15, 16, 17, 18)} {
		nobodys(t, c, wrongNumbers...)
		nobodys(t, c, 1, 2, 3, 4, 5, 6, 7, 8, 9, 10, 1048576, 11+256, 11+1<<32, -11)
	}
}

func TestWhatWasSomebodys(t *testing.T) {
	c := with(t, 8, mixed...)
	for i, tx := range mixed {
		ends(t, c, i+1, tx)
		nobodys(t, c, mixed[:i+1]...)
		hasNone(t, c, check.UpTo(1, i+1)...)
	}
	begins(t, c, 5, 3)
	nobodys(t, c, mixed...)
	ends(t, c, 5, 3)
	nobodys(t, c, 3)
}

// P16.2

func TestCrashAtEachTime(t *testing.T) {
	for _, now := range times {
		c := with(t, 3, 7)
		crashes(t, c, 1, now)
		crashes(t, c, 2, now)
		alive(t, c, 3, 3)
		if got := since(c, 7); got != now {
			t.Errorf("Crash(1, %d): dead since %d", now, got)
		}
		lost(t, c, now, 0, 7)
	}
}

func TestCrashAtNoTime(t *testing.T) {
	c := with(t, 4, 7)
	begins(t, c, 4, 9)
	crashes(t, c, 3, 10)
	crashes(t, c, 4, 10)
	for _, now := range noTimes {
		for id := 1; id <= 4; id++ { // alive and dead, with a transaction and without
			crashesNot(t, c, id, now, api.ErrArg)
		}
	}
	alive(t, c, 4, 1, 2)
	crashes(t, c, 1, 0)
}

func TestCrashOfNoClient(t *testing.T) {
	for many := 1; many <= 8; many++ {
		c := with(t, many, 7)
		for _, id := range wrong(many) {
			for _, now := range []int{0, 10, maxTime, -1, maxTime + 1, math.MinInt64, math.MaxInt64} {
				crashesNot(t, c, id, now, api.ErrNone)
			}
		}
		alive(t, c, many, check.UpTo(1, many)...)
		lost(t, c, maxTime, 0)
	}
}

func TestCrashAgain(t *testing.T) {
	for _, first := range times {
		c := with(t, 2, 7)
		crashes(t, c, 1, first)
		crashes(t, c, 2, first)
		for _, second := range times {
			crashesNot(t, c, 1, second, api.ErrState)
			crashesNot(t, c, 2, second, api.ErrState)
		}
		if got := since(c, 7); got != first {
			t.Errorf("Crash(1, %d), and again: dead since %d", first, got)
		}
		ends(t, c, 1, 7)
		crashesNot(t, c, 1, first, api.ErrState)
	}
}

func TestCrashOfEach(t *testing.T) {
	for many := 1; many <= 8; many++ {
		for first := 1; first <= many; first++ {
			c := with(t, many, mixed[:many]...)
			left := check.UpTo(1, many)
			for i := range many {
				id := 1 + (first+i-1)%many
				crashes(t, c, id, i)
				left = slices.DeleteFunc(left, func(other int) bool { return other == id })
				alive(t, c, many, left...)
				for k, tx := range mixed[:many] {
					has(t, c, k+1, tx)
				}
			}
		}
	}
}

func TestLostAroundTheSpan(t *testing.T) {
	for _, span := range []int{0, 1, 2, 3, 5, 255, 256, 999, 1000, 1001, 65536, 1 << 32, 1 << 39} {
		for _, now := range []int{0, 1, 10, 1 << 32, maxTime - 1<<39 - 1} {
			c := with(t, 1, 7)
			crashes(t, c, 1, now)
			if span > 0 {
				lost(t, c, now, span)
			}
			lost(t, c, now+span, span+1)
			if now+span > 0 {
				lost(t, c, now+span-1, span)
			}
			lost(t, c, now+span, span, 7)
			lost(t, c, now+span+1, span, 7)
			lost(t, c, maxTime, span, 7)
		}
	}
}

func TestLostAtEachTime(t *testing.T) {
	for _, dead := range times {
		c := with(t, 2, 7, 8)
		crashes(t, c, 1, dead)
		for _, now := range times {
			for _, span := range []int{0, 1, 2, 1000, 1001, 1 << 32, maxTime - 1, maxTime} {
				if now-dead >= span { // times are too small to go round
					lost(t, c, now, span, 7)
				} else {
					lost(t, c, now, span)
				}
			}
		}
	}
}

func TestLostWithASpanOfNothing(t *testing.T) {
	for _, dead := range times {
		c := with(t, 1, 7)
		crashes(t, c, 1, dead)
		lost(t, c, dead, 0, 7)
		lost(t, c, dead, 1)
		lost(t, c, maxTime, 0, 7)
		if dead > 0 {
			lost(t, c, dead-1, 0)
			lost(t, c, 0, 0)
		}
	}
}

func TestLostOfNoTimeAndOfSpansBelowNothing(t *testing.T) {
	for _, dead := range times {
		c := with(t, 2, 7, 8)
		crashes(t, c, 1, dead)
		for _, now := range noTimes {
			for _, span := range []int{math.MinInt64, -1, 0, 1, 1000, maxTime, math.MaxInt64} {
				lost(t, c, now, span)
			}
		}
		for _, now := range times {
			for _, span := range []int{math.MinInt64, math.MinInt64 + 1, math.MinInt64 + maxTime, -maxTime, -1 << 32, math.MinInt32, -1000, -2, -1} {
				lost(t, c, now, span)
			}
		}
	}
}

func TestLostAtTheEdges(t *testing.T) {
	c := with(t, 2, 7, 8)
	crashes(t, c, 1, 0)
	crashes(t, c, 2, maxTime)
	for _, span := range []int{maxTime + 1, 1 << 41, 1 << 62, math.MaxInt64 - maxTime, math.MaxInt64 - 1, math.MaxInt64} {
		lost(t, c, maxTime, span)
		lost(t, c, 0, span)
	}
	lost(t, c, maxTime, maxTime, 7)
	lost(t, c, maxTime-1, maxTime)
	lost(t, c, maxTime-1, maxTime-1, 7)
	lost(t, c, maxTime, 1, 7)
	lost(t, c, maxTime, 0, 7, 8)
	lost(t, c, maxTime-1, 0, 7)
}

func TestLostOfSeveralIsRising(t *testing.T) {
	for first := range mixed {
		txs := slices.Concat(mixed[first:], mixed[:first])
		c := with(t, 8, txs...)
		for i := range txs {
			crashes(t, c, i+1, 10*(i+1))
		}
		for i := range txs {
			lost(t, c, 10*(i+1)+4, 5, rising(txs[:i])...)
			lost(t, c, 10*(i+1)+5, 5, rising(txs[:i+1])...)
		}
		lost(t, c, 1000, 5, rising(txs)...)
		lost(t, c, 14, 5)
		for range 3 { // to tell them takes none
			lost(t, c, 35, 5, rising(txs[:3])...)
		}
	}
}

func TestLostAreOfTheDeadAlone(t *testing.T) {
	c := with(t, 8, 7, 3, 9, 5)
	crashes(t, c, 1, 10)
	crashes(t, c, 3, 10)
	crashes(t, c, 6, 10) // it has none
	lost(t, c, 15, 5, 7, 9)
	ends(t, c, 1, 7)
	ends(t, c, 2, 3)
	lost(t, c, 15, 5, 9)
	begins(t, c, 7, 7) // it is one's who is alive, now
	lost(t, c, 15, 5, 9)
	lost(t, c, maxTime, 0, 9)
	crashes(t, c, 7, 20)
	lost(t, c, 24, 5, 9)
	lost(t, c, 25, 5, 7, 9)
	ends(t, c, 3, 9)
	ends(t, c, 7, 7)
	lost(t, c, maxTime, 0)
}

func TestWhatIsToldIsNewMemory(t *testing.T) {
	c := with(t, 8, mixed...)
	for i := range mixed {
		crashes(t, c, i+1, 10)
	}
	told, before := c.Lost(15, 5), whole(c)
	check.Spoil(c.Lost(15, 5), -1)
	_ = append(c.Lost(15, 5)[:2], -1)
	lost(t, c, 15, 5, rising(mixed)...)
	if after := whole(c); after != before {
		t.Errorf("%s is %s, now", before, after)
	}
	ends(t, c, 1, 100)
	if !slices.Equal(told, rising(mixed)) {
		t.Errorf("what was told is %v, now", told)
	}
}

func TestClientsAreApart(t *testing.T) {
	a, b := with(t, 2, 7), with(t, 3, 8, 7)
	crashes(t, a, 1, 10)
	crashes(t, b, 2, 20)
	ends(t, b, 1, 8)
	alive(t, a, 2, 2)
	alive(t, b, 3, 1, 3)
	has(t, a, 1, 7)
	has(t, b, 2, 7)
	begins(t, a, 2, 8)
	hasNone(t, b, 1)
	lost(t, a, 15, 5, 7)
	lost(t, b, 15, 5)
	ends(t, a, 1, 7)
	lost(t, b, 25, 5, 7)
	alive(t, made(t, 2), 2, 1, 2)
}

// isArg checks that an answer of nil clients is 0 and ErrArg.
func isArg(t *testing.T, call string, arg, got int, err error) {
	t.Helper()
	if got != 0 || !check.Plain(err, api.ErrArg) {
		t.Errorf("%s(%d) of nil = %d, %v", call, arg, got, err)
	}
}

func TestNilClients(t *testing.T) {
	var c *client.Clients
	for _, n := range slices.Concat(numbers, wrongNumbers) {
		for _, k := range slices.Concat(times, noTimes) {
			isArg(t, "Begin", n, 0, c.Begin(n, k))
			isArg(t, "Begin", k, 0, c.Begin(k, n))
			isArg(t, "Crash", n, 0, c.Crash(n, k))
			lost(t, c, n, k)
			lost(t, c, k, n)
		}
		isArg(t, "End", n, 0, c.End(n))
		got, err := c.Now(n)
		isArg(t, "Now", n, got, err)
		got, err = c.Of(n)
		isArg(t, "Of", n, got, err)
	}
	alive(t, c, 0)
}

// The document's examples.

func TestExamples(t *testing.T) {
	c := made(t, 2)
	begins(t, c, 1, 7)
	beginsNot(t, c, 1, 8, api.ErrBusy)
	crashes(t, c, 1, 10)
	lost(t, c, 14, 5)
	lost(t, c, 15, 5, 7)
}
