package line_test

import (
	"cmp"
	"slices"
	"testing"

	"catchbolt/api"
	"catchbolt/check"
	"catchbolt/line"
)

// The limits, numbers and modes of the tests.
var (
	wrongLimits  = check.WrongLimits()
	numbers      = check.Numbers()
	wrongNumbers = check.WrongNumbers()
	modes        = check.Modes()
	wrongModes   = check.WrongModes()
)

// wrongOne is one that may not be, by which tests spoil lists.
var wrongOne = api.Wait{Tx: -1, Seq: -1, Mode: -1}

// plain is one that has no lock; what it waits for hangs on its number alone, and is another one than its neighbours'.
func plain(tx int) api.Wait {
	return api.Wait{Tx: tx, Seq: 1 + tx*7%1048576, Mode: modes[tx%4]}
}

// up is likewise one that has a lock.
func up(tx int) api.Wait {
	w := plain(tx)
	w.Up = true
	return w
}

// each are likewise ones of all those numbers.
func each(of func(tx int) api.Wait, txs ...int) []api.Wait {
	var l []api.Wait
	for _, tx := range txs {
		l = append(l, of(tx))
	}
	return l
}

// upTo are the numbers from 1 on to that one.
func upTo(n int) []int {
	var l []int
	for i := range n {
		l = append(l, i+1)
	}
	return l
}

// nobody is a line in which nobody waits.
func nobody(t *testing.T, limit int) *line.Line {
	t.Helper()
	l, err := line.New(limit)
	if l == nil || err != nil {
		t.Fatalf("New(%d) = %v, %v", limit, l, err)
	}
	return l
}

// pushed is a line in which those wait, that came in that order.
func pushed(t *testing.T, limit int, of ...api.Wait) *line.Line {
	t.Helper()
	l := nobody(t, limit)
	for _, w := range of {
		pushes(t, l, w)
	}
	return l
}

// pushes checks that one may wait.
func pushes(t *testing.T, l *line.Line, w api.Wait) {
	t.Helper()
	if err := l.Push(w); err != nil {
		t.Errorf("Push(%v) = %v, of %v", w, err, l.All())
	}
}

// pushesNone checks that one may not wait.
func pushesNone(t *testing.T, l *line.Line, w api.Wait, want api.Errno) {
	t.Helper()
	if err := l.Push(w); !check.Plain(err, want) {
		t.Errorf("Push(%v) = %v, want %v", w, err, want)
	}
}

// is checks what is told of one that waits.
func is(t *testing.T, got api.Wait, err error, want api.Wait) {
	t.Helper()
	if got != want || err != nil {
		t.Errorf("%v, %v, want %v", got, err, want)
	}
}

// isNone checks that none is told.
func isNone(t *testing.T, got api.Wait, err error, want api.Errno) {
	t.Helper()
	if got != (api.Wait{}) || !check.Plain(err, want) {
		t.Errorf("%v, %v, want %v", got, err, want)
	}
}

// pops, leaves and finds check that a call tells one that waits.
func pops(t *testing.T, l *line.Line, want api.Wait) {
	t.Helper()
	got, err := l.Pop()
	is(t, got, err, want)
}

func leaves(t *testing.T, l *line.Line, want api.Wait) {
	t.Helper()
	got, err := l.Leave(want.Tx)
	is(t, got, err, want)
}

func finds(t *testing.T, l *line.Line, want api.Wait) {
	t.Helper()
	got, err := l.Find(want.Tx)
	is(t, got, err, want)
}

// popsNone checks that there is no first one.
func popsNone(t *testing.T, l *line.Line, want api.Errno) {
	t.Helper()
	got, err := l.Pop()
	isNone(t, got, err, want)
}

// hasNone checks that a transaction doesn't wait.
func hasNone(t *testing.T, l *line.Line, tx int, want api.Errno) {
	t.Helper()
	got, err := l.Find(tx)
	isNone(t, got, err, want)
	got, err = l.Leave(tx)
	isNone(t, got, err, want)
	ahead(t, l, tx)
}

// ahead checks who waits ahead of a transaction.
func ahead(t *testing.T, l *line.Line, tx int, want ...api.Wait) {
	t.Helper()
	if got := l.Ahead(tx); !slices.Equal(got, want) {
		t.Errorf("Ahead(%d) = %v, want %v", tx, got, want)
	}
}

// waiting checks who waits, in order, by all that is told without a change.
func waiting(t *testing.T, l *line.Line, want ...api.Wait) {
	t.Helper()
	if got := l.All(); !slices.Equal(got, want) {
		t.Errorf("All() = %v, want %v", got, want)
	}
	for i, w := range want {
		finds(t, l, w)
		ahead(t, l, w.Tx, want[:i]...)
	}
}

// without are all of a list but the one at a place.
func without(l []api.Wait, place int) []api.Wait {
	return slices.Concat(l[:place], l[place+1:])
}

// P7.1

func TestNewOfLimits(t *testing.T) {
	for limit := 1; limit <= 64; limit++ {
		l := nobody(t, limit)
		waiting(t, l)
		popsNone(t, l, api.ErrNone)
	}
	for _, limit := range wrongLimits {
		if l, err := line.New(limit); l != nil || !check.Plain(err, api.ErrRange) {
			t.Errorf("New(%d) = %v, %v", limit, l, err)
		}
	}
}

func TestPushOfEachThatMayBe(t *testing.T) {
	for _, tx := range numbers {
		for _, seq := range numbers {
			for _, m := range modes {
				for _, has := range []bool{false, true} {
					w := api.Wait{Tx: tx, Seq: seq, Mode: m, Up: has}
					l := pushed(t, 1, w)
					waiting(t, l, w)
				}
			}
		}
	}
}

func TestPushOfOnesThatMayNotBe(t *testing.T) {
	all := []api.Wait{up(7), plain(8)}
	empty, half, full := nobody(t, 64), pushed(t, 3, all...), pushed(t, 2, all...)
	refused := func(w api.Wait) {
		for _, has := range []bool{false, true} {
			w.Up = has
			pushesNone(t, empty, w, api.ErrArg)
			pushesNone(t, half, w, api.ErrArg)
			pushesNone(t, full, w, api.ErrArg)
		}
	}
	for _, n := range wrongNumbers {
		for _, other := range append(slices.Clone(numbers), wrongNumbers...) {
			refused(api.Wait{Tx: n, Seq: other, Mode: api.S})
			refused(api.Wait{Tx: other, Seq: n, Mode: api.S})
			check.Stop(t)
		}
	}
	for _, m := range wrongModes {
		for _, n := range append(slices.Clone(numbers), 0, -1, 1048577) {
			refused(api.Wait{Tx: n, Seq: 1, Mode: m})
			refused(api.Wait{Tx: 1, Seq: n, Mode: m})
			refused(api.Wait{Tx: n, Seq: n, Mode: m})
		}
	}
	refused(api.Wait{})
	waiting(t, empty)
	waiting(t, half, all...)
	waiting(t, full, all...)
}

func TestPushOfOneThatWaits(t *testing.T) {
	all := []api.Wait{up(7), up(9), plain(8), plain(10)}
	half, full := pushed(t, 5, all...), pushed(t, 4, all...)
	for _, w := range all {
		for _, seq := range numbers {
			for _, m := range modes {
				for _, has := range []bool{false, true} {
					again := api.Wait{Tx: w.Tx, Seq: seq, Mode: m, Up: has}
					pushesNone(t, half, again, api.ErrBusy)
					pushesNone(t, full, again, api.ErrBusy)
				}
			}
		}
	}
	waiting(t, half, all...)
	waiting(t, full, all...)
}

func TestPushOfOneMoreThanTheLimit(t *testing.T) {
	for limit := 1; limit <= 64; limit++ {
		for ups := 0; ups <= limit; ups++ {
			all := append(each(up, upTo(limit)[:ups]...), each(plain, upTo(limit)[ups:]...)...)
			l := pushed(t, limit, all...)
			for range 2 {
				pushesNone(t, l, plain(limit+1), api.ErrLong)
				pushesNone(t, l, up(limit+1), api.ErrLong)
				pushesNone(t, l, plain(1048576), api.ErrLong)
			}
			pushesNone(t, l, plain(limit), api.ErrBusy)
			pushesNone(t, l, plain(0), api.ErrArg)
			hasNone(t, l, limit+1, api.ErrNone)
			waiting(t, l, all...)
			check.Stop(t)
		}
	}
}

func TestOneThatWentMakesRoom(t *testing.T) {
	for limit := 1; limit <= 64; limit++ {
		l := pushed(t, limit, each(plain, upTo(limit)...)...)
		pops(t, l, plain(1))
		pushes(t, l, up(100))
		pushesNone(t, l, plain(1), api.ErrLong)
		leaves(t, l, up(100))
		pushes(t, l, plain(1))
		pushesNone(t, l, up(100), api.ErrLong)
		waiting(t, l, append(each(plain, upTo(limit)[1:]...), plain(1))...)
	}
}

func TestPushIsTheLastOfItsLot(t *testing.T) {
	l := nobody(t, 64)
	var ups, plains []api.Wait
	for i := range 64 {
		tx := 1 + i*37%64 // neither rising nor falling
		if i%3 == 1 {
			pushes(t, l, up(tx))
			ups = append(ups, up(tx))
		} else {
			pushes(t, l, plain(tx))
			plains = append(plains, plain(tx))
		}
		waiting(t, l, slices.Concat(ups, plains)...)
		check.Stop(t)
	}
}

// P7.2

// mixed are waiting ones in order: so many that have a lock, and so many others, of numbers that don't rise.
func mixed(ups, plains int) []api.Wait {
	var l []api.Wait
	for i := range ups + plains {
		tx := 1 + (i*37+11)%101
		if i < ups {
			l = append(l, up(tx))
		} else {
			l = append(l, plain(tx))
		}
	}
	return l
}

// lots are how many may be in both lots, of the tests that try each place.
var lots = [][2]int{{0, 1}, {1, 0}, {1, 1}, {0, 2}, {2, 0}, {2, 3}, {3, 2}, {5, 5}, {0, 64}, {64, 0}, {1, 63}, {63, 1}, {31, 33}}

func TestPopOfAll(t *testing.T) {
	for _, many := range lots {
		all := mixed(many[0], many[1])
		l := pushed(t, 64, all...)
		for i, w := range all {
			pops(t, l, w)
			hasNone(t, l, w.Tx, api.ErrNone)
			waiting(t, l, all[i+1:]...)
			check.Stop(t)
		}
		for range 3 {
			popsNone(t, l, api.ErrNone)
		}
	}
}

func TestLeaveOfEach(t *testing.T) {
	for _, many := range lots {
		all := mixed(many[0], many[1])
		for i, w := range all {
			l := pushed(t, 64, all...)
			leaves(t, l, w)
			hasNone(t, l, w.Tx, api.ErrNone)
			waiting(t, l, without(all, i)...)
			check.Stop(t)
		}
	}
}

func TestLeaveOfAllFromBehind(t *testing.T) {
	for _, many := range lots {
		all := mixed(many[0], many[1])
		l := pushed(t, 64, all...)
		for i, w := range slices.Backward(all) {
			leaves(t, l, w)
			waiting(t, l, all[:i]...)
			check.Stop(t)
		}
		popsNone(t, l, api.ErrNone)
	}
}

func TestOnesThatDoNotWait(t *testing.T) {
	all := []api.Wait{up(7), up(1048575), plain(9), plain(257)}
	empty, l := nobody(t, 64), pushed(t, 64, all...)
	others := slices.Concat(wrongNumbers, []int{1, 2, 6, 8, 10, 256, 258, 263, 265, 65793, 1048574, 1048576})
	for _, tx := range others {
		hasNone(t, empty, tx, api.ErrNone)
		hasNone(t, l, tx, api.ErrNone)
	}
	waiting(t, empty)
	waiting(t, l, all...)
}

func TestFindTellsAllOfIt(t *testing.T) {
	l := nobody(t, 64)
	var all []api.Wait
	for i, tx := range numbers {
		w := api.Wait{Tx: tx, Seq: numbers[len(numbers)-1-i], Mode: modes[i%4], Up: i%8 < 4}
		pushes(t, l, w)
		all = append(all, w)
	}
	for _, w := range all {
		finds(t, l, w)
		leaves(t, l, w)
		hasNone(t, l, w.Tx, api.ErrNone)
	}
}

func TestWhoLeftComesBehindInEitherLot(t *testing.T) {
	for _, many := range lots[2:8] {
		for i, w := range mixed(many[0], many[1]) {
			for _, again := range []api.Wait{plain(w.Tx), up(w.Tx)} {
				all := mixed(many[0], many[1])
				l := pushed(t, 10, all...)
				leaves(t, l, w)
				pushes(t, l, again)
				all = without(all, i)
				behind := len(all)
				if again.Up {
					behind = slices.IndexFunc(append(all, plain(1)), func(o api.Wait) bool { return !o.Up })
				}
				waiting(t, l, slices.Insert(slices.Clone(all), behind, again)...)
			}
		}
	}
}

func TestTellingChangesNothing(t *testing.T) {
	all := mixed(3, 4)
	l := pushed(t, 7, all...)
	for range 3 {
		waiting(t, l, all...)
		hasNone(t, l, 1000, api.ErrNone)
		pushesNone(t, l, plain(1000), api.ErrLong)
	}
}

func TestWhatIsToldIsNewMemory(t *testing.T) {
	for _, many := range lots {
		all := mixed(many[0], many[1])
		last := all[len(all)-1].Tx
		l := pushed(t, 64, all...)
		told, before := l.All(), l.Ahead(last)
		for _, w := range all {
			check.Spoil(l.All(), wrongOne)
			check.Spoil(l.Ahead(w.Tx), wrongOne)
			_ = append(l.All()[:1], api.Wait{})
			_ = append(l.Ahead(w.Tx), api.Wait{})
		}
		waiting(t, l, all...)
		for range all {
			l.Pop()
		}
		for i := range all {
			l.Push(up(200 + i))
		}
		if !slices.Equal(told, all) || !slices.Equal(before, all[:len(all)-1]) {
			t.Errorf("what was told is %v, %v now, want %v", told, before, all)
		}
	}
}

func TestWhatIsToldIsCutToItsLength(t *testing.T) {
	for _, many := range lots {
		l := pushed(t, 64, mixed(many[0], many[1])...)
		for _, told := range append([][]api.Wait{l.All()}, aheads(l)...) {
			if len(told) != cap(told) {
				t.Errorf("%d have room for %d", len(told), cap(told))
			}
		}
	}
}

// aheads are those ahead of each that waits.
func aheads(l *line.Line) [][]api.Wait {
	var all [][]api.Wait
	for _, w := range l.All() {
		all = append(all, l.Ahead(w.Tx))
	}
	return all
}

func TestLinesAreApart(t *testing.T) {
	a, b, c := pushed(t, 3, plain(7), up(8)), pushed(t, 2, plain(7), plain(9)), nobody(t, 1)
	pops(t, a, up(8))
	leaves(t, b, plain(7))
	pushes(t, a, plain(9))
	pushes(t, c, up(7))
	waiting(t, a, plain(7), plain(9))
	waiting(t, b, plain(9))
	waiting(t, c, up(7))
	pushesNone(t, c, plain(8), api.ErrLong)
	pushes(t, b, up(8))
	waiting(t, b, up(8), plain(9))
}

func TestNilLine(t *testing.T) {
	var l *line.Line
	for _, tx := range slices.Concat(numbers, wrongNumbers) {
		for _, m := range append(slices.Clone(wrongModes), modes...) {
			pushesNone(t, l, api.Wait{Tx: tx, Seq: 1, Mode: m}, api.ErrArg)
			pushesNone(t, l, api.Wait{Tx: 1, Seq: tx, Mode: m, Up: true}, api.ErrArg)
			check.Stop(t)
		}
		hasNone(t, l, tx, api.ErrArg)
	}
	popsNone(t, l, api.ErrArg)
	waiting(t, l)
}

// P7.3

// passed checks that of those that waited ahead, and wait yet, nobody was passed: those of one lot stand as they stood, whoever came stands behind its lot, and all that have a lock stand ahead of all others.
func passed(t *testing.T, before, now []api.Wait) {
	t.Helper()
	for i, a := range now {
		for _, b := range now[i+1:] {
			if b.Up && !a.Up {
				t.Errorf("%v has a lock, and waits behind %v", b, a)
			}
			placeA, placeB := slices.Index(before, a), slices.Index(before, b)
			if a.Up == b.Up && placeB >= 0 && (placeA < 0 || placeA > placeB) {
				t.Errorf("%v passed %v: %v, ahead of that %v", a, b, now, before)
			}
		}
	}
}

// book is a line as the document tells it: who waits, and as the how many-th it came.
type book struct {
	limit, came int
	all         []entry
}

// entry is one that waits, and as the how many-th it came.
type entry struct {
	w    api.Wait
	came int
}

// order is who waits, in order.
func (b *book) order() []api.Wait {
	sorted := slices.Clone(b.all)
	slices.SortFunc(sorted, func(x, y entry) int {
		if x.w.Up != y.w.Up {
			if x.w.Up {
				return -1
			}
			return 1
		}
		return cmp.Compare(x.came, y.came)
	})
	var l []api.Wait
	for _, e := range sorted {
		l = append(l, e.w)
	}
	return l
}

// take is a transaction's, that waits no more.
func (b *book) take(tx int) (api.Wait, bool) {
	place := slices.IndexFunc(b.all, func(e entry) bool { return e.w.Tx == tx })
	if place < 0 {
		return api.Wait{}, false
	}
	w := b.all[place].w
	b.all = slices.Delete(b.all, place, place+1)
	return w, true
}

// has says whether a transaction waits.
func (b *book) has(tx int) bool {
	return slices.ContainsFunc(b.all, func(e entry) bool { return e.w.Tx == tx })
}

// push, pop and leave do likewise to the book as to the line, and check that both say the same.
func (b *book) push(t *testing.T, l *line.Line, w api.Wait) {
	t.Helper()
	switch {
	case b.has(w.Tx):
		pushesNone(t, l, w, api.ErrBusy)
	case len(b.all) >= b.limit:
		pushesNone(t, l, w, api.ErrLong)
	default:
		b.came++
		b.all = append(b.all, entry{w, b.came})
		pushes(t, l, w)
	}
}

func (b *book) pop(t *testing.T, l *line.Line) {
	t.Helper()
	if len(b.all) == 0 {
		popsNone(t, l, api.ErrNone)
		return
	}
	w, _ := b.take(b.order()[0].Tx)
	pops(t, l, w)
}

func (b *book) leave(t *testing.T, l *line.Line, tx int) {
	t.Helper()
	if w, ok := b.take(tx); ok {
		leaves(t, l, w)
	}
	hasNone(t, l, tx, api.ErrNone)
}

// step does what a number says, of so many transactions.
func (b *book) step(t *testing.T, l *line.Line, by uint64, txs int) {
	t.Helper()
	before := l.All()
	tx := 1 + int(by>>4%uint64(txs))
	switch by & 7 {
	case 0:
		b.pop(t, l)
	case 1, 2:
		b.leave(t, l, tx)
	default:
		w := plain(tx)
		w.Seq, w.Up = 1+b.came, by>>3&1 == 1
		b.push(t, l, w)
	}
	passed(t, before, l.All())
	waiting(t, l, b.order()...)
}

func TestScriptsAgainstABook(t *testing.T) {
	for _, limit := range []int{1, 2, 3, 5, 8, 20, 63, 64} {
		for _, txs := range []int{limit, limit + 2, 2*limit + 1} {
			l, b := nobody(t, limit), book{limit: limit}
			by := uint64(limit*1000 + txs)
			for range 1500 {
				by = by*6364136223846793005 + 1442695040888963407
				b.step(t, l, by>>33, txs)
			}
			check.Stop(t)
		}
	}
}

func TestEachShortScript(t *testing.T) {
	const steps = 4
	kinds := []uint64{0, 1, 3, 3 | 1<<3} // to pop, to leave, to push one that has no lock, or one that has
	var all []uint64
	for _, kind := range kinds {
		for tx := range uint64(3) {
			all = append(all, kind|tx<<4)
		}
	}
	many := 1
	for range steps {
		many *= len(all)
	}
	for limit := 1; limit <= 3; limit++ {
		for script := range many {
			l, b := nobody(t, limit), book{limit: limit}
			for range steps {
				b.step(t, l, all[script%len(all)], 3)
				script /= len(all)
			}
			check.Stop(t)
		}
	}
}

// The document's example.

func TestExample(t *testing.T) {
	l := pushed(t, 64, plain(1), plain(2), up(3))
	waiting(t, l, up(3), plain(1), plain(2))
	ahead(t, l, 2, up(3), plain(1))
}
