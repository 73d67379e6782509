package locks_test

import (
	"slices"
	"strings"
	"testing"

	"catchbolt/api"
	"catchbolt/check"
	"catchbolt/locks"
	"catchbolt/mode"
)

// The numbers, modes and resources of the tests.
var (
	wrongQueues    = check.WrongLimits()
	wrongSlots     = append(slices.DeleteFunc(check.WrongLimits(), isSlots), 4097, 4098, 8192, 65536+4096, 1<<32+4096)
	numbers        = check.Numbers()
	wrongNumbers   = check.WrongNumbers()
	modes          = check.Modes()
	wrongModes     = check.WrongModes()
	wrongResources = check.WrongResources()
)

// isSlots says whether locks may have so many slots.
func isSlots(n int) bool { return n >= 1 && n <= 4096 }

// nobody are locks that nobody has.
func nobody(t *testing.T, slots, queue int) *locks.Locks {
	t.Helper()
	l, err := locks.New(slots, queue)
	if l == nil || err != nil {
		t.Fatalf("New(%d, %d) = %v, %v", slots, queue, l, err)
	}
	return l
}

// number is that of a transaction's requests in most tests: one that may be, and isn't the transaction's own.
func number(tx int) int { return 100 + tx%1000000 }

// asks checks what a request answers that has no error.
func asks(t *testing.T, l *locks.Locks, tx int, r api.Res, m api.Mode, want bool) {
	t.Helper()
	if got, err := l.Ask(tx, number(tx), r, m); got != want || err != nil {
		t.Errorf("Ask(%d, %s, %s) = %v, %v, want %v, of %s", tx, check.Res(r), check.Mode(m), got, err, want, of(l))
	}
}

// grants and waits check that a request is granted, or that it waits.
func grants(t *testing.T, l *locks.Locks, tx int, text string, m api.Mode) {
	t.Helper()
	asks(t, l, tx, check.At(text), m, true)
}

func waits(t *testing.T, l *locks.Locks, tx int, text string, m api.Mode) {
	t.Helper()
	asks(t, l, tx, check.At(text), m, false)
}

// refuses checks that a request is refused, with that error behind it, and that nothing changes by it.
func refuses(t *testing.T, l *locks.Locks, tx int, text string, m api.Mode, want api.Errno) {
	t.Helper()
	before, r := whole(l), check.At(text)
	if got, err := l.Ask(tx, number(tx), r, m); got || !check.Refusal(err, tx, r, want) {
		t.Errorf("Ask(%d, %s, %s) = %v, %v, want %v, of %s", tx, text, check.Mode(m), got, err, want, before)
	}
	if now := whole(l); now != before {
		t.Errorf("Ask(%d, %s, %s) was refused, and changed %s to %s", tx, text, check.Mode(m), before, now)
	}
}

// mayNot checks that a request may not be, which is no refusal, and that nothing changes by it.
func mayNot(t *testing.T, l *locks.Locks, tx, seq int, r api.Res, m api.Mode) {
	t.Helper()
	before := whole(l)
	if got, err := l.Ask(tx, seq, r, m); got || !check.Plain(err, api.ErrArg) {
		t.Errorf("Ask(%d, %d, %v, %d) = %v, %v, of %s", tx, seq, r, m, got, err, before)
	}
	if now := whole(l); now != before {
		t.Errorf("Ask(%d, %d, %v, %d) may not be, and changed %s to %s", tx, seq, r, m, before, now)
	}
}

// frees checks what is granted by it that a transaction is freed, and that nothing is left of it.
func frees(t *testing.T, l *locks.Locks, tx int, want string) {
	t.Helper()
	before := of(l)
	if got := check.Granted(l.Free(tx)); got != want {
		t.Errorf("Free(%d) = %s, want %s, of %s", tx, got, want, before)
	}
	has(t, l, tx, "")
	waitsNowhere(t, l, tx, api.ErrNone)
}

// of is who is at which resource, as a text: "3[1IX 2IX | 1.101X^] 3.1[1X]".
func of(l *locks.Locks) string {
	var all []string
	for _, r := range l.All() {
		text := check.Held(l.Holders(r))
		if some := l.Waiting(r); len(some) > 0 {
			text += " | " + check.Queued(some)
		}
		all = append(all, check.Res(r)+"["+text+"]")
	}
	return strings.Join(all, " ")
}

// whole is all that locks tell, as a text.
func whole(l *locks.Locks) string {
	all := []string{of(l), check.Edged(l.Edges()), check.Step(l.Used(), 0)}
	for _, tx := range there(l) {
		w, _ := l.Wait(tx)
		all = append(all, check.Granted(append(l.Has(tx), w)))
	}
	return strings.Join(all, "; ")
}

// there are all that have a lock or wait, rising.
func there(l *locks.Locks) []int {
	var all []int
	for _, r := range l.All() {
		for _, h := range l.Holders(r) {
			all = append(all, h.Tx)
		}
		for _, w := range l.Waiting(r) {
			all = append(all, w.Tx)
		}
	}
	slices.Sort(all)
	return slices.Compact(all)
}

// tells checks who is at which resource, as a text, and how many these are.
func tells(t *testing.T, l *locks.Locks, want string) {
	t.Helper()
	if got := of(l); got != want {
		t.Errorf("the locks tell\n%s, want\n%s", got, want)
	}
	many := 0
	for _, r := range l.All() {
		many += len(l.Holders(r)) + len(l.Waiting(r))
	}
	used(t, l, many)
}

// used checks how many holders and waiting ones there are.
func used(t *testing.T, l *locks.Locks, want int) {
	t.Helper()
	if got := l.Used(); got != want {
		t.Errorf("Used() = %d, want %d, of %s", got, want, of(l))
	}
}

// edges checks who waits for whom, as a text.
func edges(t *testing.T, l *locks.Locks, want string) {
	t.Helper()
	if got := check.Edged(l.Edges()); got != want {
		t.Errorf("Edges() = %s, want %s, of %s", got, want, of(l))
	}
}

// has checks a transaction's locks, as a text, and the modes that it has there.
func has(t *testing.T, l *locks.Locks, tx int, want string) {
	t.Helper()
	all := l.Has(tx)
	if got := check.Granted(all); got != want {
		t.Errorf("Has(%d) = %s, want %s, of %s", tx, got, want, of(l))
	}
	for _, g := range all {
		isMode(t, l, tx, g.At, g.Mode)
	}
}

// isMode checks a transaction's mode on a resource.
func isMode(t *testing.T, l *locks.Locks, tx int, r api.Res, want api.Mode) {
	t.Helper()
	if got := l.Mode(tx, r); got != want {
		t.Errorf("Mode(%d, %v) = %d, want %d, of %s", tx, r, got, want, of(l))
	}
}

// waitsFor checks what a transaction waits for, as a text.
func waitsFor(t *testing.T, l *locks.Locks, tx int, want string) {
	t.Helper()
	if got, err := l.Wait(tx); check.Granted([]api.Grant{got}) != want || err != nil {
		t.Errorf("Wait(%d) = %v, %v, want %s, of %s", tx, got, err, want, of(l))
	}
}

// waitsNowhere checks that a transaction doesn't wait.
func waitsNowhere(t *testing.T, l *locks.Locks, tx int, want api.Errno) {
	t.Helper()
	if got, err := l.Wait(tx); got != (api.Grant{}) || !check.Plain(err, want) {
		t.Errorf("Wait(%d) = %v, %v, want %v, of %s", tx, got, err, want, of(l))
	}
}

// nobodyAt checks that nobody is at a resource, of all those numbers.
func nobodyAt(t *testing.T, l *locks.Locks, r api.Res, txs []int) {
	t.Helper()
	if h, w := l.Holders(r), l.Waiting(r); len(h) != 0 || len(w) != 0 {
		t.Errorf("%v and %v are at %v, of %s", h, w, r, of(l))
	}
	for _, tx := range txs {
		isMode(t, l, tx, r, api.None)
	}
}

// some are locks of all sorts: that nobody has; that have room; where 7 and 9 wait, for each other; that have no slot left, and a line that is full.
func some(t *testing.T) []*locks.Locks {
	t.Helper()
	empty, roomy, busy, full := nobody(t, 4, 1), nobody(t, 64, 1), nobody(t, 64, 2), nobody(t, 5, 1)
	for _, l := range []*locks.Locks{roomy, busy, full} {
		grants(t, l, 9, "3", api.IX)
		grants(t, l, 9, "3.1", api.X)
		grants(t, l, 7, "3", api.IS)
	}
	waits(t, busy, 7, "3.1", api.S)
	waits(t, busy, 9, "3", api.X)
	waits(t, full, 10, "3", api.X)
	grants(t, full, 11, "4", api.S)
	return []*locks.Locks{empty, roomy, busy, full}
}

// P9.1

func TestNewOfLimits(t *testing.T) {
	for slots := 1; slots <= 4096; slots++ {
		for _, queue := range []int{1, 1 + slots%64, 64} {
			l := nobody(t, slots, queue)
			tells(t, l, "")
			edges(t, l, "")
			frees(t, l, 1, "")
		}
		check.Stop(t)
	}
}

func TestNewOfWrongLimits(t *testing.T) {
	wrong := func(slots, queue int) {
		t.Helper()
		if l, err := locks.New(slots, queue); l != nil || !check.Plain(err, api.ErrRange) {
			t.Errorf("New(%d, %d) = %v, %v", slots, queue, l, err)
		}
	}
	for _, slots := range wrongSlots {
		for _, queue := range append([]int{1, 2, 63, 64}, wrongQueues...) {
			wrong(slots, queue)
		}
	}
	for _, queue := range wrongQueues {
		for _, slots := range []int{1, 2, 64, 65, 4095, 4096} {
			wrong(slots, queue)
		}
	}
}

func TestSlotsAreAsManyAsTheLimit(t *testing.T) {
	for _, slots := range []int{1, 2, 3, 4, 7, 63, 64, 65, 255, 256, 257, 1023, 4095, 4096} {
		l := nobody(t, slots, 64)
		for i := range slots { // of 100 tables each has some that have it, and a few that wait
			tx := i + 1
			m := api.IS
			if i >= slots-90 {
				m = api.X
			}
			asks(t, l, tx, api.Res{Table: 1 + i%100}, m, m == api.IS || i < 100)
			used(t, l, tx)
		}
		check.Stop(t)
		for i, text := range []string{"1", "100", "101", "250"} {
			refuses(t, l, 5000, text, modes[i], api.ErrFull)
		}
		l.Free(1)
		if l.Used() >= slots {
			t.Errorf("1 is freed, and %d of %d are used", l.Used(), slots)
		}
		grants(t, l, 5000, "250", api.X)
	}
}

func TestEachResourceHasALineOfTheLimit(t *testing.T) {
	for queue := 1; queue <= 64; queue++ {
		l := nobody(t, 4096, queue)
		grants(t, l, 1000, "3", api.IX)
		grants(t, l, 1000, "3.1", api.X)
		grants(t, l, 1000, "4", api.X)
		for tx := 1; tx <= queue; tx++ {
			waits(t, l, tx, "4", api.S)
			grants(t, l, 200+tx, "3", api.IS)
			waits(t, l, 200+tx, "3.1", api.S)
		}
		for tx := 401; tx <= 400+queue; tx++ {
			waits(t, l, tx, "3", api.X)
		}
		grants(t, l, 999, "5", api.IS)
		refuses(t, l, 999, "4", api.S, api.ErrLong)
		refuses(t, l, 999, "3", api.IS, api.ErrLong)
		refuses(t, l, 1000, "3", api.X, api.ErrLong)
		frees(t, l, 401, "")
		waits(t, l, 999, "3", api.X)
		used(t, l, 3+4*queue+1)
		check.Stop(t)
	}
}

// P9.2

func TestAskOfEachThatMayBe(t *testing.T) {
	for _, tx := range numbers {
		for i, seq := range numbers {
			for _, m := range modes {
				r := api.Res{Table: []int{1, 2, 3, 249, 250}[i%5]}
				l := nobody(t, 2, 1)
				if got, err := l.Ask(tx, seq, r, m); !got || err != nil {
					t.Errorf("Ask(%d, %d, %v, %d) = %v, %v", tx, seq, r, m, got, err)
				}
				tells(t, l, check.Res(r)+"["+check.Step(tx, 0)+check.Mode(m)+"]")
				l = nobody(t, 2, 1)
				asks(t, l, 8, r, api.X, true)
				if got, err := l.Ask(tx, seq, r, m); got || err != nil {
					t.Errorf("Ask(%d, %d, %v, %d) = %v, %v, behind X", tx, seq, r, m, got, err)
				}
				tells(t, l, check.Res(r)+"[8X | "+check.Step(tx, seq)+check.Mode(m)+"]")
				waitsFor(t, l, tx, check.Res(r)+":"+check.Step(tx, seq)+check.Mode(m))
				check.Stop(t)
			}
		}
	}
}

func TestAskOfEachResource(t *testing.T) {
	for table := 1; table <= 250; table++ {
		l := nobody(t, 4096, 1)
		asks(t, l, 1, api.Res{Table: table}, api.IX, true)
		for row := 1; row <= 250; row++ {
			asks(t, l, 1, api.Res{Table: table, Row: row}, modes[2+row%2], true)
		}
		used(t, l, 251)
		all := l.Has(1)
		for row, g := range all {
			if g.At != (api.Res{Table: table, Row: row}) || row > 0 && g.Mode != modes[2+row%2] {
				t.Errorf("1 has %v at place %d", g, row)
			}
		}
		check.Stop(t)
	}
}

func TestAskOfOnesThatMayNotBe(t *testing.T) {
	for _, l := range some(t) {
		for _, n := range wrongNumbers {
			for _, m := range modes { // rows' wrong ones, too
				for _, r := range []api.Res{check.At("3"), check.At("3.1"), check.At("9.1")} {
					mayNot(t, l, n, 1, r, m)
					mayNot(t, l, 7, n, r, m)
					mayNot(t, l, n, n, r, m)
				}
			}
			check.Stop(t)
		}
		for _, r := range wrongResources {
			for _, m := range append([]api.Mode{api.None, 5}, modes...) {
				for _, tx := range []int{7, 9, 99, 0} {
					mayNot(t, l, tx, 1, r, m)
				}
			}
			check.Stop(t)
		}
		for _, m := range wrongModes {
			for _, r := range []api.Res{check.At("3"), check.At("3.1"), check.At("9.1")} {
				mayNot(t, l, 7, 1, r, m)
				mayNot(t, l, 9, 1, r, m)
				mayNot(t, l, 99, 1, r, m)
			}
			check.Stop(t)
		}
	}
}

func TestAskOfARowInAModeThatItMayNotHave(t *testing.T) {
	for _, l := range some(t) {
		for _, m := range []api.Mode{api.IS, api.IX} {
			for _, text := range []string{"3.1", "3.2", "3.250", "4.1", "9.1", "250.250"} {
				for _, tx := range []int{7, 9, 10, 11, 99} { // one that waits, that has the row, that has no table
					refuses(t, l, tx, text, m, api.ErrMode)
				}
			}
		}
	}
}

func TestAskOfOneThatWaits(t *testing.T) {
	l := nobody(t, 64, 64)
	grants(t, l, 9, "3", api.IX)
	grants(t, l, 9, "3.1", api.X)
	grants(t, l, 7, "3", api.IS)
	grants(t, l, 7, "4", api.X)
	waits(t, l, 7, "3.1", api.S)
	waits(t, l, 9, "4", api.IS)
	for _, tx := range []int{7, 9} {
		for _, text := range []string{"1", "3", "4", "250"} { // what it has, too
			for _, m := range modes {
				refuses(t, l, tx, text, m, api.ErrBusy)
			}
		}
		for _, text := range []string{"3.1", "3.2", "4.1", "9.1"} { // whether it has the table or not
			refuses(t, l, tx, text, api.S, api.ErrBusy)
			refuses(t, l, tx, text, api.X, api.ErrBusy)
		}
	}
	tells(t, l, "3[9IX 7IS] 3.1[9X | 7.107S] 4[7X | 9.109IS]")
	edges(t, l, "7.107>9 9.109>7")
}

func TestAskOfARowNeedsItsTable(t *testing.T) {
	for _, m := range []api.Mode{api.S, api.X} {
		need, _ := mode.Need(m)
		for table := api.None; table <= api.X; table++ {
			l := nobody(t, 64, 64)
			grants(t, l, 8, "5", api.X) // others' locks, and its own on others, don't help
			grants(t, l, 7, "4", api.X)
			grants(t, l, 7, "4.1", api.X)
			if table == api.None {
				grants(t, l, 8, "3", api.X)
				refuses(t, l, 7, "3.1", m, api.ErrIntent)
				refuses(t, l, 7, "5.1", m, api.ErrIntent)
				continue
			}
			grants(t, l, 7, "3", table)
			if mode.Covers(table, need) {
				grants(t, l, 7, "3.1", m)
				tells(t, l, "3[7"+check.Mode(table)+"] 3.1[7"+check.Mode(m)+"] 4[7X] 4.1[7X] 5[8X]")
				continue
			}
			refuses(t, l, 7, "3.1", m, api.ErrIntent)
			refuses(t, l, 7, "3.250", m, api.ErrIntent)
		}
	}
}

func TestAskForMoreOfARow(t *testing.T) {
	l := nobody(t, 64, 64)
	grants(t, l, 1, "3", api.IS)
	grants(t, l, 1, "3.1", api.S)
	refuses(t, l, 1, "3.1", api.X, api.ErrIntent)
	grants(t, l, 1, "3", api.S) // which covers IS, but not IX
	refuses(t, l, 1, "3.1", api.X, api.ErrIntent)
	grants(t, l, 1, "3", api.IX)
	tells(t, l, "3[1X] 3.1[1S]")
	grants(t, l, 1, "3.1", api.X)
	grants(t, l, 1, "3.1", api.S) // it has more already
	tells(t, l, "3[1X] 3.1[1X]")
	has(t, l, 1, "3:1X 3.1:1X")
}

func TestAskOfTablesThatHaveRows(t *testing.T) {
	l := nobody(t, 64, 64)
	grants(t, l, 1, "3", api.IX)
	grants(t, l, 1, "3.1", api.X)
	grants(t, l, 2, "3", api.IS)
	grants(t, l, 2, "3.2", api.S)
	waits(t, l, 2, "3.1", api.S)
	waits(t, l, 3, "3", api.S)
	waits(t, l, 4, "3", api.IS)
	waits(t, l, 1, "3", api.X)
	tells(t, l, "3[1IX 2IS | 1.101X^ 3.103S 4.104IS] 3.1[1X | 2.102S] 3.2[2S]")
	edges(t, l, "1.101>2 2.102>1 3.103>1 4.104>1.101 4.104>3.103")
	frees(t, l, 2, "3:1.101X")
	frees(t, l, 1, "3:3.103S 3:4.104IS")
}

func TestAskWhereThereIsNoRoom(t *testing.T) {
	l := nobody(t, 6, 64)
	grants(t, l, 1, "3", api.IX)
	grants(t, l, 1, "3.1", api.S)
	grants(t, l, 2, "3", api.IX)
	grants(t, l, 2, "3.1", api.S)
	grants(t, l, 3, "4", api.IS)
	grants(t, l, 4, "4", api.S)
	refuses(t, l, 5, "5", api.S, api.ErrFull)   // where nobody is
	refuses(t, l, 5, "4", api.IS, api.ErrFull)  // where it would be granted
	refuses(t, l, 5, "4", api.IX, api.ErrFull)  // where it would wait
	refuses(t, l, 1, "3.2", api.S, api.ErrFull) // who has others
	refuses(t, l, 1, "3.1", api.X, api.ErrFull) // who would wait for more
	refuses(t, l, 1, "3", api.S, api.ErrFull)
	grants(t, l, 1, "3", api.IS) // what it has
	grants(t, l, 1, "3.1", api.S)
	grants(t, l, 3, "4", api.S) // what it can have in its place
	tells(t, l, "3[1IX 2IX] 3.1[1S 2S] 4[3S 4S]")
	frees(t, l, 4, "")
	grants(t, l, 3, "4", api.X)
	waits(t, l, 1, "3.1", api.X) // a waiting one that has a lock is one more
	tells(t, l, "3[1IX 2IX] 3.1[1S 2S | 1.101X^] 4[3X]")
	refuses(t, l, 2, "3.1", api.X, api.ErrFull)
	refuses(t, l, 5, "5", api.S, api.ErrFull)
	frees(t, l, 2, "3.1:1.101X")
	tells(t, l, "3[1IX] 3.1[1X] 4[3X]")
	for tx := 5; tx <= 7; tx++ {
		grants(t, l, tx, "5", api.IS)
	}
	refuses(t, l, 8, "5", api.IS, api.ErrFull)
}

func TestAskOfAFullLine(t *testing.T) {
	l := nobody(t, 64, 2)
	grants(t, l, 1, "3", api.IX)
	grants(t, l, 2, "3", api.IX)
	waits(t, l, 1, "3", api.S)
	waits(t, l, 3, "3", api.IS)
	for _, m := range modes {
		refuses(t, l, 4, "3", m, api.ErrLong)
	}
	refuses(t, l, 2, "3", api.S, api.ErrLong)
	grants(t, l, 2, "3", api.IS) // what it has
	grants(t, l, 2, "3.1", api.X)
	grants(t, l, 4, "4", api.X) // another spot has a line of its own
	waits(t, l, 2, "4", api.X)
	tells(t, l, "3[1IX 2IX | 1.101X^ 3.103IS] 3.1[2X] 4[4X | 2.102X]")
}

// clash is what stands against 7's request for a row.
type clash struct{ mode, busy, intent, full, long bool }

// first is the first error that a clash has; OK is none.
func (c clash) first() api.Errno {
	switch {
	case c.mode:
		return api.ErrMode
	case c.busy:
		return api.ErrBusy
	case c.intent:
		return api.ErrIntent
	case c.full:
		return api.ErrFull
	case c.long:
		return api.ErrLong
	}
	return api.OK
}

// made are locks with so many slots, and a line for one, in which that stands against 7's request for row 3.1, but for the mode and the slots.
func (c clash) made(t *testing.T, slots int) *locks.Locks {
	t.Helper()
	l := nobody(t, slots, 1)
	grants(t, l, 1, "3", api.IX)
	grants(t, l, 1, "3.1", api.X)
	if c.long {
		grants(t, l, 2, "3", api.IX)
		waits(t, l, 2, "3.1", api.X)
	}
	if !c.intent {
		grants(t, l, 7, "3", api.IS)
	}
	if c.busy {
		grants(t, l, 1, "9", api.X)
		waits(t, l, 7, "9", api.S)
	}
	return l
}

func TestFirstOfSeveralErrors(t *testing.T) {
	for i := range 32 {
		c := clash{mode: i&1 != 0, busy: i&2 != 0, intent: i&4 != 0, full: i&8 != 0, long: i&16 != 0}
		slots := c.made(t, 4096).Used()
		if !c.full {
			slots++
		}
		l, m := c.made(t, slots), api.S
		if c.mode {
			m = api.IS
		}
		if want := c.first(); want == api.OK {
			waits(t, l, 7, "3.1", m)
		} else {
			refuses(t, l, 7, "3.1", m, want)
		}
		mayNot(t, l, 7, 0, check.At("3.1"), m)
	}
}

// P9.3

func TestFreeOfWhoHasNothing(t *testing.T) {
	for _, l := range some(t) {
		before := whole(l)
		for _, tx := range slices.Concat(wrongNumbers, []int{1, 2, 6, 8, 12, 256, 263, 265, 266, 65543, 1048575, 1048576}) {
			frees(t, l, tx, "")
		}
		if now := whole(l); now != before {
			t.Errorf("what nobody has was freed, and %s is %s now", before, now)
		}
	}
}

func TestFreeTellsInTheResourcesOrder(t *testing.T) {
	l := nobody(t, 4096, 64)
	var texts []string
	for i := range 250 { // neither rising nor falling
		table := 1 + i*37%250
		asks(t, l, 1, api.Res{Table: table}, api.X, true)
		asks(t, l, 1000-table, api.Res{Table: table}, api.S, false)
		asks(t, l, 500-table, api.Res{Table: table}, api.IS, false)
		texts = append(texts, "")
	}
	for i := range texts {
		tx, then := check.Step(999-i, number(999-i)), check.Step(499-i, number(499-i))
		at := check.Step(i+1, 0)
		texts[i] = at + ":" + tx + "S " + at + ":" + then + "IS"
	}
	frees(t, l, 1, strings.Join(texts, " "))
	used(t, l, 500)
	edges(t, l, "")
}

func TestFreeOfTablesAndRows(t *testing.T) {
	for range 20 { // whatever the order of a map
		l := nobody(t, 4096, 64)
		for tx := 1; tx <= 9; tx++ {
			grants(t, l, tx, "3", api.IX)
			grants(t, l, tx, "20", api.IX)
		}
		for i, text := range []string{"20.2", "3.14", "3.2", "20.10", "3.1"} {
			grants(t, l, 1, text, api.X)
			waits(t, l, 2+i, text, api.S)
		}
		waits(t, l, 7, "3.2", api.S)
		waits(t, l, 8, "3.2", api.X)
		frees(t, l, 1, "3.1:6.106S 3.2:4.104S 3.2:7.107S 3.14:3.103S 20.2:2.102S 20.10:5.105S")
		tells(t, l, "3[2IX 3IX 4IX 5IX 6IX 7IX 8IX 9IX] 3.1[6S] 3.2[4S 7S | 8.108X] 3.14[3S] "+
			"20[2IX 3IX 4IX 5IX 6IX 7IX 8IX 9IX] 20.2[2S] 20.10[5S]")
		check.Stop(t)
	}
}

func TestFreeOfOneThatWaits(t *testing.T) {
	l := nobody(t, 64, 64)
	grants(t, l, 1, "3", api.S)
	waits(t, l, 2, "3", api.X)
	waits(t, l, 3, "3", api.S)
	waits(t, l, 4, "3", api.IX)
	frees(t, l, 2, "3:3.103S") // it had no lock at all
	tells(t, l, "3[1S 3S | 4.104IX]")
	frees(t, l, 4, "")
	tells(t, l, "3[1S 3S]")
	grants(t, l, 4, "2", api.IS) // it has one elsewhere
	grants(t, l, 5, "4", api.X)
	grants(t, l, 4, "5", api.X)
	waits(t, l, 4, "4", api.S)
	waits(t, l, 6, "4", api.X)
	frees(t, l, 4, "")
	tells(t, l, "3[1S 3S] 4[5X | 6.106X]")
	edges(t, l, "6.106>5")
}

func TestFreeOfOneThatHasALockAndWaits(t *testing.T) {
	l := nobody(t, 7, 64)
	grants(t, l, 1, "3", api.S)
	grants(t, l, 2, "3", api.IS)
	grants(t, l, 3, "3", api.IS)
	waits(t, l, 1, "3", api.X)
	waits(t, l, 2, "3", api.IX)
	waits(t, l, 4, "3", api.IX)
	used(t, l, 6)
	frees(t, l, 1, "3:2.102IX 3:4.104IX")
	tells(t, l, "3[2IX 3IS 4IX]") // 2 has its lock still, but waits no more
	for tx := 5; tx <= 8; tx++ {
		grants(t, l, tx, "5", api.IS)
	}
	refuses(t, l, 9, "5", api.IS, api.ErrFull)
}

func TestFreedAndGrantedOnesMayAskAgain(t *testing.T) {
	l := nobody(t, 64, 1)
	grants(t, l, 1, "3", api.X)
	waits(t, l, 2, "3", api.S)
	refuses(t, l, 2, "4", api.S, api.ErrBusy)
	refuses(t, l, 3, "3", api.S, api.ErrLong)
	frees(t, l, 1, "3:2.102S")
	waitsNowhere(t, l, 2, api.ErrNone)
	grants(t, l, 2, "4", api.S) // who was granted
	waits(t, l, 1, "3", api.X)  // who was freed
	refuses(t, l, 1, "5", api.X, api.ErrBusy)
	frees(t, l, 1, "") // who was freed of its waiting alone
	grants(t, l, 1, "5", api.X)
	frees(t, l, 2, "")
	refuses(t, l, 2, "3.1", api.S, api.ErrIntent) // its table is let go
	tells(t, l, "5[1X]")
}

func TestFreeTwice(t *testing.T) {
	l := nobody(t, 64, 64)
	grants(t, l, 1, "3", api.X)
	grants(t, l, 1, "4", api.X)
	waits(t, l, 2, "4", api.X)
	waits(t, l, 3, "3", api.X)
	frees(t, l, 1, "3:3.103X 4:2.102X")
	frees(t, l, 1, "")
	tells(t, l, "3[3X] 4[2X]")
	frees(t, l, 2, "")
	frees(t, l, 2, "")
	frees(t, l, 3, "")
	tells(t, l, "")
}

// P9.4

func TestWhereNobodyIs(t *testing.T) {
	for _, l := range some(t) {
		for _, r := range slices.Concat(wrongResources, []api.Res{check.At("1"), check.At("3.2"), check.At("4.1"), check.At("1.3"), check.At("250"), check.At("250.250")}) {
			nobodyAt(t, l, r, slices.Concat(wrongNumbers, []int{7, 9, 10, 11, 99}))
			check.Stop(t)
		}
	}
}

func TestModeOfEach(t *testing.T) {
	l := nobody(t, 64, 64)
	grants(t, l, 1048576, "3", api.IX)
	grants(t, l, 1048576, "3.1", api.S)
	grants(t, l, 257, "3", api.IS)
	grants(t, l, 257, "3.1", api.S)
	waits(t, l, 1048576, "3.1", api.X)
	waits(t, l, 258, "3", api.X)
	for _, q := range []struct {
		tx   int
		text string
		want api.Mode
	}{
		{1048576, "3", api.IX}, {1048576, "3.1", api.S}, {1048576, "3.2", api.None}, {1048576, "1", api.None},
		{257, "3", api.IS}, {257, "3.1", api.S}, {258, "3", api.None}, {258, "3.1", api.None},
	} {
		isMode(t, l, q.tx, check.At(q.text), q.want)
	}
	for _, tx := range slices.Concat(wrongNumbers, []int{1, 2, 256, 259, 1048575}) {
		isMode(t, l, tx, check.At("3"), api.None)
		isMode(t, l, tx, check.At("3.1"), api.None)
		has(t, l, tx, "")
		waitsNowhere(t, l, tx, api.ErrNone)
	}
}

func TestHoldersAndWaitingAreInTheSpotsOrder(t *testing.T) {
	l := nobody(t, 64, 64)
	for _, tx := range []int{5, 3, 9, 4} {
		grants(t, l, tx, "3", api.IS)
	}
	for _, tx := range []int{8, 4, 1, 5} {
		waits(t, l, tx, "3", api.X)
	}
	tells(t, l, "3[5IS 3IS 9IS 4IS | 4.104X^ 5.105X^ 8.108X 1.101X]")
	edges(t, l, "1.101>3 1.101>4 1.101>5 1.101>8.108 1.101>9 4.104>3 4.104>5 4.104>9 5.105>3 5.105>4 5.105>9 8.108>3 8.108>4 8.108>5 8.108>9")
}

func TestWaitTellsItsAim(t *testing.T) {
	l := nobody(t, 64, 64)
	grants(t, l, 1, "3", api.IX)
	grants(t, l, 2, "3", api.IX)
	grants(t, l, 2, "3.9", api.X)
	waits(t, l, 1, "3", api.S) // with IX that is X
	waits(t, l, 3, "3", api.S)
	waitsFor(t, l, 1, "3:1.101X")
	waitsFor(t, l, 3, "3:3.103S")
	waitsNowhere(t, l, 2, api.ErrNone)
	grants(t, l, 4, "4", api.IS)
	if got, err := l.Ask(2, 1048576, check.At("4"), api.X); got || err != nil {
		t.Errorf("%v, %v", got, err)
	}
	waitsFor(t, l, 2, "4:2.1048576X")
	frees(t, l, 4, "4:2.1048576X")
	waitsNowhere(t, l, 2, api.ErrNone)
	frees(t, l, 2, "3:1.101X")
	waitsFor(t, l, 3, "3:3.103S")
	waitsNowhere(t, l, 1, api.ErrNone)
	frees(t, l, 3, "")
	waitsNowhere(t, l, 3, api.ErrNone)
}

func TestHasAndAllAreInTheResourcesOrder(t *testing.T) {
	for range 20 { // whatever the order of a map
		l := nobody(t, 64, 64)
		for _, text := range []string{"20", "3", "100", "1", "250"} {
			grants(t, l, 7, text, api.IX)
			grants(t, l, 8, text, api.IX)
		}
		for _, text := range []string{"3.14", "20.2", "3.2", "250.1", "3.100", "1.9"} {
			grants(t, l, 7, text, api.X)
		}
		grants(t, l, 8, "3.1", api.S)
		waits(t, l, 8, "3.14", api.S) // it waits, and has no lock there
		has(t, l, 7, "1:7IX 1.9:7X 3:7IX 3.2:7X 3.14:7X 3.100:7X 20:7IX 20.2:7X 100:7IX 250:7IX 250.1:7X")
		has(t, l, 8, "1:8IX 3:8IX 3.1:8S 20:8IX 100:8IX 250:8IX")
		tells(t, l, "1[7IX 8IX] 1.9[7X] 3[7IX 8IX] 3.1[8S] 3.2[7X] 3.14[7X | 8.108S] 3.100[7X] 20[7IX 8IX] 20.2[7X] 100[7IX 8IX] 250[7IX 8IX] 250.1[7X]")
		check.Stop(t)
	}
}

func TestEdgesOfAllSpotsStandByTheirNumbers(t *testing.T) {
	for range 20 { // whatever the order of a map
		l := nobody(t, 64, 64)
		for i, text := range []string{"3", "1", "200", "20"} {
			grants(t, l, 10+i, text, api.S)
			grants(t, l, 5-i, text, api.IS)
		}
		waits(t, l, 12, "3", api.X) // each where others are
		waits(t, l, 2, "1", api.X)
		waits(t, l, 11, "200", api.IX)
		waits(t, l, 5, "20", api.X)
		waits(t, l, 1048576, "20", api.IX)
		edges(t, l, "2.102>4 2.102>11 5.105>2 5.105>13 11.111>12 12.112>5 12.112>10 1048576.48676>5.105 1048576.48676>13")
		check.Stop(t)
	}
}

func TestTellingChangesNothing(t *testing.T) {
	for _, l := range some(t) {
		before := whole(l)
		for tx := -1; tx < 12; tx++ {
			l.Wait(tx)
			l.Has(tx)
			for _, r := range append([]api.Res{check.At("3"), check.At("3.1"), check.At("4"), check.At("9.1")}, wrongResources...) {
				l.Mode(tx, r)
				l.Holders(r)
				l.Waiting(r)
			}
			if now := whole(l); now != before {
				t.Errorf("%s was asked of %d, and is %s now", before, tx, now)
			}
		}
	}
}

// grown are locks where 9 has something, for which others wait.
func grown(t *testing.T) *locks.Locks {
	t.Helper()
	l := nobody(t, 64, 64)
	for tx := 1; tx <= 9; tx++ {
		grants(t, l, tx, "3", api.IX)
	}
	for tx := 1; tx <= 4; tx++ {
		grants(t, l, 9, "3."+check.Step(tx, 0), api.X)
		waits(t, l, tx, "3."+check.Step(tx, 0), api.S)
	}
	return l
}

// wrong are what tests spoil lists by.
var (
	wrongGrant = api.Grant{Tx: -1, Seq: -1, Mode: -1}
	wrongHold  = api.Hold{Tx: -1, Mode: -1}
	wrongWait  = api.Wait{Tx: -1, Seq: -1, Mode: -1}
	wrongEdge  = api.Edge{From: -1, Seq: -1, To: -1, ToSeq: -1}
)

func TestWhatIsToldIsNewMemory(t *testing.T) {
	l := grown(t)
	before := whole(l)
	for range 3 {
		check.Spoil(l.Holders(check.At("3")), wrongHold)
		check.Spoil(l.Waiting(check.At("3.2")), wrongWait)
		check.Spoil(l.Has(9), wrongGrant)
		check.Spoil(l.Edges(), wrongEdge)
		check.Spoil(l.All(), api.Res{Table: -1, Row: -1})
		if now := whole(l); now != before {
			t.Errorf("what was told was spoilt, and %s is %s now", before, now)
		}
	}
	granted := l.Free(9)
	check.Spoil(granted, wrongGrant)
	tells(t, l, "3[1IX 2IX 3IX 4IX 5IX 6IX 7IX 8IX] 3.1[1S] 3.2[2S] 3.3[3S] 3.4[4S]")
}

func TestWhatWasToldStaysAsItWas(t *testing.T) {
	l := grown(t)
	holders, waiting, some, edges, all := l.Holders(check.At("3")), l.Waiting(check.At("3.2")), l.Has(9), l.Edges(), l.All()
	granted := l.Free(9)
	for tx := 1; tx <= 20; tx++ {
		l.Ask(tx, 1, check.At("3"), api.X)
		l.Free(tx - 3)
	}
	now := strings.Join([]string{check.Held(holders), check.Queued(waiting), check.Granted(some), check.Edged(edges), check.Granted(granted)}, "; ")
	want := "1IX 2IX 3IX 4IX 5IX 6IX 7IX 8IX 9IX; 2.102S; 3:9IX 3.1:9X 3.2:9X 3.3:9X 3.4:9X; 1.101>9 2.102>9 3.103>9 4.104>9; 3.1:1.101S 3.2:2.102S 3.3:3.103S 3.4:4.104S"
	if now != want || !slices.Equal(all, []api.Res{check.At("3"), check.At("3.1"), check.At("3.2"), check.At("3.3"), check.At("3.4")}) {
		t.Errorf("what was told is\n%s, %v now, want\n%s", now, all, want)
	}
}

func TestLocksAreApart(t *testing.T) {
	a, b := nobody(t, 3, 1), nobody(t, 4, 2)
	grants(t, a, 1, "3", api.X)
	grants(t, b, 2, "3", api.X)
	waits(t, a, 2, "3", api.S)
	waits(t, b, 1, "3", api.S)
	refuses(t, a, 2, "4", api.S, api.ErrBusy)
	grants(t, b, 2, "4", api.S)
	refuses(t, a, 3, "3", api.S, api.ErrLong)
	waits(t, b, 3, "3", api.S)
	grants(t, a, 3, "4", api.X)
	refuses(t, a, 4, "4", api.X, api.ErrFull)
	frees(t, a, 2, "")
	tells(t, a, "3[1X] 4[3X]")
	tells(t, b, "3[2X | 1.101S 3.103S] 4[2S]")
}

func TestNilLocks(t *testing.T) {
	var l *locks.Locks
	for _, tx := range slices.Concat(numbers, wrongNumbers) {
		for _, r := range append([]api.Res{check.At("3"), check.At("3.1")}, wrongResources...) {
			for _, m := range []api.Mode{-1, api.None, api.IS, api.X, 5} {
				mayNot(t, l, tx, 1, r, m)
			}
			mayNot(t, l, 1, tx, r, api.S)
			nobodyAt(t, l, r, []int{tx})
		}
		if got := l.Free(tx); len(got) != 0 {
			t.Errorf("Free(%d) = %v, of nil", tx, got)
		}
		has(t, l, tx, "")
		waitsNowhere(t, l, tx, api.ErrArg)
		check.Stop(t)
	}
	tells(t, l, "")
	edges(t, l, "")
	used(t, l, 0)
}

// The document's example.

func TestExample(t *testing.T) {
	l := nobody(t, 64, 64)
	refuses(t, l, 1, "3.1", api.S, api.ErrIntent)
	grants(t, l, 1, "3", api.IS)
	grants(t, l, 1, "3.1", api.S)
	waits(t, l, 2, "3", api.X)
	tells(t, l, "3[1IS | 2.102X] 3.1[1S]")
	edges(t, l, "2.102>1")
}
