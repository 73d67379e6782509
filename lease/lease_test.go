package lease_test

import (
	"math"
	"slices"
	"testing"

	"catchbolt/api"
	"catchbolt/check"
	"catchbolt/lease"
)

// maxTime is the greatest time.
const maxTime = check.MaxTime

// spans are those around the edges of what a span may be.
var spans = []int{1, 2, 3, 7, 255, 256, 257, 999, 1000}

// wrongSpans are those that may not be; some would be near if they were cut.
var wrongSpans = []int{
	math.MinInt64, math.MinInt64 + 1, math.MinInt64 + 1000, -1 << 32, -1<<32 + 7, math.MinInt32, -1000, -256, -255, -2, -1,
	0, 1001, 1002, 1024, 65535, 65536, 65537, math.MaxInt32, 1 << 32, 1<<32 + 1, 1<<32 + 1000, maxTime, 1 << 48, 1<<48 + 7, math.MaxInt64,
}

// times are those around the edges of what a time may be, and noTimes are numbers that are none.
var times, noTimes = check.Times(), check.NoTimes()

// ids are numbers that may have leases, not rising; some would be one if they were cut, and as texts they would stand in another order.
var ids = []int{100, 9, 10, 1, math.MaxInt64, 2, 1<<32 + 2, 1048576, 99, 1<<32 + 1, 1 << 32, 1048577, math.MaxInt32, 1000, math.MaxInt64 - 1, 65536, 1 << 62}

// wrongIDs are numbers that have no lease; some would be near if they were cut.
var wrongIDs = []int{math.MinInt64, math.MinInt64 + 1, math.MinInt64 + 7, -1 << 62, -1<<32 + 1, -1 << 32, math.MinInt32, -1048576, -256, -255, -7, -2, -1, 0}

// nobodys are leases of nobody.
func nobodys(t *testing.T, span int) *lease.Leases {
	t.Helper()
	l, err := lease.New(span)
	if l == nil || err != nil {
		t.Fatalf("New(%d) = %v, %v", span, l, err)
	}
	return l
}

// renewed are leases of all of those, renewed at a time.
func renewed(t *testing.T, span, now int, of ...int) *lease.Leases {
	t.Helper()
	l := nobodys(t, span)
	for _, id := range of {
		renews(t, l, id, now)
	}
	return l
}

// renews checks that one may be renewed.
func renews(t *testing.T, l *lease.Leases, id, now int) {
	t.Helper()
	if err := l.Renew(id, now); err != nil {
		t.Errorf("Renew(%d, %d) = %v", id, now, err)
	}
}

// renewsNone checks that one may not be renewed.
func renewsNone(t *testing.T, l *lease.Leases, id, now int) {
	t.Helper()
	if err := l.Renew(id, now); !check.Plain(err, api.ErrArg) {
		t.Errorf("Renew(%d, %d) = %v", id, now, err)
	}
}

// ends checks that one had a lease, and ends it.
func ends(t *testing.T, l *lease.Leases, id int) {
	t.Helper()
	if err := l.End(id); err != nil {
		t.Errorf("End(%d) = %v", id, err)
	}
}

// hasNone checks that one has no lease.
func hasNone(t *testing.T, l *lease.Leases, id int) {
	t.Helper()
	if since, err := l.Since(id); since != 0 || !check.Plain(err, api.ErrNone) {
		t.Errorf("Since(%d) = %d, %v", id, since, err)
	}
	if err := l.End(id); !check.Plain(err, api.ErrNone) {
		t.Errorf("End(%d) = %v", id, err)
	}
}

// isSince checks when one was renewed last.
func isSince(t *testing.T, l *lease.Leases, id, want int) {
	t.Helper()
	if since, err := l.Since(id); since != want || err != nil {
		t.Errorf("Since(%d) = %d, %v, want %d", id, since, err, want)
	}
}

// due checks whose leases are due.
func due(t *testing.T, l *lease.Leases, now int, want ...int) {
	t.Helper()
	if got := l.Due(now); !slices.Equal(got, want) {
		t.Errorf("Due(%d) = %v, want %v", now, got, want)
	}
}

// all checks who has a lease.
func all(t *testing.T, l *lease.Leases, want ...int) {
	t.Helper()
	if got := l.All(); !slices.Equal(got, want) {
		t.Errorf("All() = %v, want %v", got, want)
	}
}

// rising are numbers in their order.
func rising(of []int) []int {
	l := slices.Clone(of)
	slices.Sort(l)
	return l
}

// without are numbers without one of them.
func without(of []int, one int) []int {
	return slices.DeleteFunc(slices.Clone(of), func(id int) bool { return id == one })
}

// P6.1

func TestNewOfSpans(t *testing.T) {
	for span := 1; span <= 1000; span++ {
		l := nobodys(t, span)
		all(t, l)
		for _, now := range times {
			due(t, l, now)
		}
	}
	for _, span := range wrongSpans {
		if l, err := lease.New(span); l != nil || !check.Plain(err, api.ErrRange) {
			t.Errorf("New(%d) = %v, %v", span, l, err)
		}
	}
}

func TestRenewOfEachTime(t *testing.T) {
	for _, id := range ids {
		for _, now := range times {
			l := nobodys(t, 3)
			renews(t, l, id, now)
			isSince(t, l, id, now)
			all(t, l, id)
		}
	}
}

func TestRenewTakesTheLaterTime(t *testing.T) {
	for _, first := range times {
		for _, second := range times {
			l := renewed(t, 3, first, 7)
			renews(t, l, 7, second)
			isSince(t, l, 7, max(first, second))
			all(t, l, 7)
		}
	}
}

func TestRenewOfAnElderTimeLeavesItDue(t *testing.T) {
	l := renewed(t, 3, 10, 7)
	for _, now := range []int{9, 0, 10, 5} {
		renews(t, l, 7, now)
		isSince(t, l, 7, 10)
		due(t, l, 12)
		due(t, l, 13, 7)
	}
}

func TestRenewOfOnesThatMayNotBe(t *testing.T) {
	l := renewed(t, 3, 10, 7)
	for _, id := range wrongIDs {
		for _, now := range slices.Concat(times, noTimes) {
			renewsNone(t, l, id, now)
		}
		hasNone(t, l, id)
	}
	for _, now := range noTimes {
		for _, id := range ids {
			renewsNone(t, l, id, now)
			hasNone(t, l, id)
		}
		renewsNone(t, l, 7, now)
		isSince(t, l, 7, 10)
	}
	all(t, l, 7)
	due(t, l, 12)
	due(t, l, 13, 7)
}

func TestEndOfEach(t *testing.T) {
	for _, id := range ids {
		l := renewed(t, 3, 10, ids...)
		ends(t, l, id)
		hasNone(t, l, id)
		left := rising(without(ids, id))
		all(t, l, left...)
		due(t, l, 13, left...)
		for _, other := range left {
			isSince(t, l, other, 10)
		}
	}
}

func TestEndOfAll(t *testing.T) {
	l := renewed(t, 3, 10, ids...)
	left := rising(ids)
	for _, id := range ids {
		ends(t, l, id)
		left = without(left, id)
		all(t, l, left...)
	}
	due(t, l, maxTime)
	for _, id := range ids {
		hasNone(t, l, id)
	}
}

func TestEndOfOnesThatHaveNone(t *testing.T) {
	l := nobodys(t, 3)
	for _, id := range slices.Concat(ids, wrongIDs) {
		hasNone(t, l, id)
	}
	renews(t, l, 7, 10)
	for _, id := range slices.Concat(ids, wrongIDs, []int{6, 8, 7 + 256, 7 + 1<<32, -7}) {
		hasNone(t, l, id)
	}
	all(t, l, 7)
	isSince(t, l, 7, 10)
}

func TestWhatEndedIsForgotten(t *testing.T) {
	for _, first := range times {
		for _, second := range times {
			l := renewed(t, 3, first, 7, 8)
			ends(t, l, 7)
			renews(t, l, 7, second)
			isSince(t, l, 7, second)
			isSince(t, l, 8, first)
			all(t, l, 7, 8)
		}
	}
}

// P6.2

func TestSinceOfEachItsOwn(t *testing.T) {
	l := nobodys(t, 3)
	for i, id := range ids {
		renews(t, l, id, times[i])
	}
	for i, id := range ids {
		isSince(t, l, id, times[i])
	}
	for _, id := range []int{3, 8, 11, 98, 101, 1048575, 1048578, math.MaxInt64 - 2} {
		hasNone(t, l, id)
	}
}

func TestDueAtEachTime(t *testing.T) {
	for _, span := range spans {
		for _, last := range times {
			l := renewed(t, span, last, 7)
			for _, now := range times {
				if now >= last+span {
					due(t, l, now, 7)
				} else {
					due(t, l, now)
				}
			}
		}
	}
}

func TestDueAroundTheSpan(t *testing.T) {
	for span := 1; span <= 1000; span++ {
		for _, last := range []int{0, 1, 1 << 32, maxTime - 2000} {
			l := renewed(t, span, last, 7)
			due(t, l, last)
			due(t, l, last+span-1)
			due(t, l, last+span, 7)
			due(t, l, last+span+1, 7)
			due(t, l, maxTime, 7)
		}
	}
}

func TestDueAtTheLastTimes(t *testing.T) {
	for _, span := range spans {
		l := renewed(t, span, maxTime-span, 7)
		renews(t, l, 8, maxTime-span+1)
		renews(t, l, 9, maxTime)
		due(t, l, maxTime-1)
		due(t, l, maxTime, 7)
	}
}

func TestDueOfNoTimes(t *testing.T) {
	for _, span := range spans {
		for _, last := range times {
			l := renewed(t, span, last, ids...)
			for _, now := range noTimes {
				due(t, l, now)
			}
			all(t, l, rising(ids)...)
		}
	}
}

func TestDueAndAllAreRising(t *testing.T) {
	l := nobodys(t, 5)
	var even, odd []int
	for i := range 500 {
		id := 1 + i*337%500
		renews(t, l, id, id%2)
	}
	for id := 1; id <= 500; id++ {
		if id%2 == 0 {
			even = append(even, id)
		} else {
			odd = append(odd, id)
		}
	}
	for range 5 {
		due(t, l, 4)
		due(t, l, 5, even...)
		due(t, l, 6, rising(append(odd, even...))...)
		all(t, l, rising(append(odd, even...))...)
	}
}

func TestDueAndAllOfGreatNumbersAreRising(t *testing.T) {
	l := renewed(t, 3, 0, ids...)
	due(t, l, 3, rising(ids)...)
	all(t, l, rising(ids)...)
}

func TestDueOfThoseThatAreAlone(t *testing.T) {
	l := nobodys(t, 3)
	for id, last := range map[int]int{5: 10, 3: 12, 9: 11, 1: 14, 7: 10} {
		renews(t, l, id, last)
	}
	due(t, l, 12)
	due(t, l, 13, 5, 7)
	due(t, l, 14, 5, 7, 9)
	due(t, l, 15, 3, 5, 7, 9)
	due(t, l, 16, 3, 5, 7, 9)
	due(t, l, 17, 1, 3, 5, 7, 9)
	due(t, l, 13, 5, 7)
	all(t, l, 1, 3, 5, 7, 9)
}

func TestTellingTakesNothing(t *testing.T) {
	l := renewed(t, 3, 10, 7, 5)
	for range 3 {
		due(t, l, 13, 5, 7)
		due(t, l, 12)
		due(t, l, -1)
		all(t, l, 5, 7)
		isSince(t, l, 7, 10)
	}
}

func TestWhatIsToldIsNewMemory(t *testing.T) {
	l := renewed(t, 3, 10, ids...)
	wasDue, wereAll := l.Due(13), l.All()
	check.Spoil(l.Due(13), -1)
	check.Spoil(l.All(), -1)
	_ = append(l.Due(13)[:2], -1)
	_ = append(l.All()[:2], -1)
	due(t, l, 13, rising(ids)...)
	all(t, l, rising(ids)...)
	ends(t, l, 9)
	renews(t, l, 10, 20)
	renews(t, l, 4, 20)
	if !slices.Equal(wasDue, rising(ids)) || !slices.Equal(wereAll, rising(ids)) {
		t.Errorf("what was told is %v, %v now, want %v", wasDue, wereAll, rising(ids))
	}
}

func TestLeasesAreApart(t *testing.T) {
	a, b := renewed(t, 3, 10, 7), renewed(t, 4, 10, 7, 8)
	c := nobodys(t, 3)
	renews(t, a, 7, 20)
	ends(t, b, 8)
	isSince(t, a, 7, 20)
	isSince(t, b, 7, 10)
	due(t, a, 22)
	due(t, b, 13)
	due(t, b, 14, 7)
	all(t, c)
	hasNone(t, c, 7)
}

func TestNilLeases(t *testing.T) {
	var l *lease.Leases
	for _, id := range slices.Concat(ids, wrongIDs) {
		for _, now := range slices.Concat(times, noTimes) {
			renewsNone(t, l, id, now)
		}
		if since, err := l.Since(id); since != 0 || !check.Plain(err, api.ErrArg) {
			t.Errorf("Since(%d) of nil = %d, %v", id, since, err)
		}
		if err := l.End(id); !check.Plain(err, api.ErrArg) {
			t.Errorf("End(%d) of nil = %v", id, err)
		}
	}
	for _, now := range slices.Concat(times, noTimes) {
		due(t, l, now)
	}
	all(t, l)
}

// P6.3

func TestWhoeverIsRenewedIsDueFirstWhenTheSpanHasPassed(t *testing.T) {
	for _, span := range []int{1, 2, 3, 10, 1000} {
		l := nobodys(t, span)
		for now := range 3*span + 3 {
			if now == 0 || now == span-1 || now == 2*span-2 { // each once ahead of its end
				renews(t, l, 7, now)
			}
			last, _ := l.Since(7)
			if now < last+span {
				due(t, l, now)
			} else {
				due(t, l, now, 7)
			}
		}
	}
}

func TestDueStaysDue(t *testing.T) {
	for _, stop := range []func(l *lease.Leases){
		func(l *lease.Leases) { renews(t, l, 7, 100) },
		func(l *lease.Leases) { ends(t, l, 7) },
	} {
		l := renewed(t, 3, 10, 7)
		for now := 13; now <= 100; now++ {
			due(t, l, now, 7)
			renews(t, l, 7, 9)
			renewsNone(t, l, 7, -1)
		}
		due(t, l, maxTime, 7)
		stop(l)
		due(t, l, 100)
		due(t, l, 102)
	}
}

// book is what was done to leases, as the document tells it: one behind the other, each once.
type book struct {
	span int
	all  []entry
}

// entry is whose lease was renewed last at which time.
type entry struct{ id, last int }

// find is the place of one's entry, or -1.
func (b *book) find(id int) int {
	return slices.IndexFunc(b.all, func(e entry) bool { return e.id == id })
}

// renew, end and tell do likewise to the book as to the leases, and check that both say the same.
func (b *book) renew(t *testing.T, l *lease.Leases, id, now int) {
	renews(t, l, id, now)
	place := b.find(id)
	if place < 0 {
		b.all = append(b.all, entry{id, now})
		return
	}
	if now > b.all[place].last {
		b.all[place].last = now
	}
}

func (b *book) end(t *testing.T, l *lease.Leases, id int) {
	place := b.find(id)
	if place < 0 {
		hasNone(t, l, id)
		return
	}
	ends(t, l, id)
	b.all = slices.Delete(b.all, place, place+1)
}

func (b *book) tell(t *testing.T, l *lease.Leases, now int) {
	var have, over []int
	for _, e := range b.all {
		have = append(have, e.id)
		if now >= e.last && now-e.last >= b.span {
			over = append(over, e.id)
		}
		isSince(t, l, e.id, e.last)
	}
	due(t, l, now, rising(over)...)
	all(t, l, rising(have)...)
}

func TestScriptsAgainstABook(t *testing.T) {
	for _, span := range []int{1, 2, 3, 8, 40, 1000} {
		for _, begin := range []int{0, 1<<32 - 2*span, maxTime - 4*span - 400} {
			l, b := nobodys(t, span), book{span: span}
			now, by := begin, uint64(span)
			for range 1500 {
				by = by*6364136223846793005 + 1442695040888963407
				id := int(1 + by>>33%30)
				switch by >> 20 % 8 {
				case 0, 1, 2:
					b.renew(t, l, id, now)
				case 3:
					b.renew(t, l, id, max(0, now-int(by>>40%uint64(2*span))))
				case 4:
					b.end(t, l, id)
				default:
					now = min(maxTime, now+int(by>>40%uint64(span/4+2)))
				}
				b.tell(t, l, now)
				b.tell(t, l, max(0, now-span))
			}
		}
	}
}

// The document's examples.

func TestExamples(t *testing.T) {
	l := nobodys(t, 3)
	renews(t, l, 7, 10)
	due(t, l, 13, 7)
	due(t, l, 12)
}
