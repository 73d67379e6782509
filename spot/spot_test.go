package spot_test

import (
	"slices"
	"testing"

	"catchbolt/api"
	"catchbolt/check"
	"catchbolt/mode"
	"catchbolt/spot"
)

// The limits, numbers and modes of the tests.
var (
	wrongLimits  = check.WrongLimits()
	numbers      = check.Numbers()
	wrongNumbers = check.WrongNumbers()
	modes        = check.Modes()
	wrongModes   = check.WrongModes()
)

// nobody is a spot that nobody has.
func nobody(t *testing.T, limit int) *spot.Spot {
	t.Helper()
	s, err := spot.New(limit)
	if s == nil || err != nil {
		t.Fatalf("New(%d) = %v, %v", limit, s, err)
	}
	return s
}

// number is that of a transaction's requests in most tests: one that may be, and isn't the transaction's own.
func number(tx int) int { return 100 + tx%1000000 }

// asks checks what a request answers that has no error.
func asks(t *testing.T, s *spot.Spot, tx int, m api.Mode, want bool) {
	t.Helper()
	if got, err := s.Ask(tx, number(tx), m); got != want || err != nil {
		t.Errorf("Ask(%d, %s) = %v, %v, want %v, of %s", tx, check.Mode(m), got, err, want, of(s))
	}
}

// grants and waits check that a request is granted, or that it waits.
func grants(t *testing.T, s *spot.Spot, tx int, m api.Mode) {
	t.Helper()
	asks(t, s, tx, m, true)
}

func waits(t *testing.T, s *spot.Spot, tx int, m api.Mode) {
	t.Helper()
	asks(t, s, tx, m, false)
}

// refuses checks that a request has that error, and that nothing changes by it.
func refuses(t *testing.T, s *spot.Spot, tx, seq int, m api.Mode, want api.Errno) {
	t.Helper()
	before := of(s)
	if got, err := s.Ask(tx, seq, m); got || !check.Plain(err, want) {
		t.Errorf("Ask(%d, %d, %d) = %v, %v, want %v, of %s", tx, seq, m, got, err, want, before)
	}
	if now := of(s); now != before {
		t.Errorf("Ask(%d, %d, %d) was refused, and changed %s to %s", tx, seq, m, before, now)
	}
}

// frees checks who is granted by it that a transaction is freed.
func frees(t *testing.T, s *spot.Spot, tx int, want string) {
	t.Helper()
	before := of(s)
	if got, err := s.Free(tx); check.Queued(got) != want || err != nil {
		t.Errorf("Free(%d) = %s, %v, want %s, of %s", tx, check.Queued(got), err, want, before)
	}
	if m := s.Mode(tx); m != api.None {
		t.Errorf("%d is freed, and has %s", tx, check.Mode(m))
	}
}

// freesNone checks that a transaction can't be freed, and that nothing changes by it.
func freesNone(t *testing.T, s *spot.Spot, tx int, want api.Errno) {
	t.Helper()
	before := of(s)
	if got, err := s.Free(tx); len(got) != 0 || !check.Plain(err, want) {
		t.Errorf("Free(%d) = %s, %v, want %v, of %s", tx, check.Queued(got), err, want, before)
	}
	if now := of(s); now != before {
		t.Errorf("Free(%d) was refused, and changed %s to %s", tx, before, now)
	}
}

// of is all that a spot tells, as a text.
func of(s *spot.Spot) string {
	return check.Held(s.Holders()) + " | " + check.Queued(s.Waiting()) + " | " + check.Edged(s.Edges())
}

// tells checks all that a spot tells, as a text.
func tells(t *testing.T, s *spot.Spot, want string) {
	t.Helper()
	if got := of(s); got != want {
		t.Errorf("the spot tells\n%s, want\n%s", got, want)
	}
}

// has checks a transaction's mode.
func has(t *testing.T, s *spot.Spot, tx int, want api.Mode) {
	t.Helper()
	if got := s.Mode(tx); got != want {
		t.Errorf("Mode(%d) = %d, want %d, of %s", tx, got, want, of(s))
	}
}

// more checks how many more there would be.
func more(t *testing.T, s *spot.Spot, tx int, m api.Mode, want int) {
	t.Helper()
	if got := s.More(tx, m); got != want {
		t.Errorf("More(%d, %d) = %d, want %d, of %s", tx, m, got, want, of(s))
	}
}

// P8.1

func TestNewOfLimits(t *testing.T) {
	for limit := 1; limit <= 64; limit++ {
		s := nobody(t, limit)
		tells(t, s, " |  | ")
		freesNone(t, s, 1, api.ErrNone)
		grants(t, s, 1000, api.X)
		for tx := 1; tx <= limit; tx++ {
			waits(t, s, tx, api.IS)
		}
		refuses(t, s, limit+1, 1, api.IS, api.ErrLong)
		check.Stop(t)
	}
	for _, limit := range wrongLimits {
		if s, err := spot.New(limit); s != nil || !check.Plain(err, api.ErrRange) {
			t.Errorf("New(%d) = %v, %v", limit, s, err)
		}
	}
}

func TestAskOfEachThatMayBe(t *testing.T) {
	for _, tx := range numbers {
		for _, seq := range numbers {
			for _, m := range modes {
				s := nobody(t, 1)
				if got, err := s.Ask(tx, seq, m); !got || err != nil {
					t.Errorf("Ask(%d, %d, %d) = %v, %v", tx, seq, m, got, err)
				}
				tells(t, s, check.Step(tx, 0)+check.Mode(m)+" |  | ")
				has(t, s, tx, m)
				s = nobody(t, 1)
				grants(t, s, 8, api.X)
				if got, err := s.Ask(tx, seq, m); got || err != nil {
					t.Errorf("Ask(%d, %d, %d) = %v, %v, behind X", tx, seq, m, got, err)
				}
				tells(t, s, "8X | "+check.Step(tx, seq)+check.Mode(m)+" | "+check.Step(tx, seq)+">8")
				has(t, s, tx, api.None)
				check.Stop(t)
			}
		}
	}
}

// some are spots of all sorts, of limit 2, or as many as wait there: that nobody has, that are held, with a line that has room, and full ones.
func some(t *testing.T) []*spot.Spot {
	t.Helper()
	var all []*spot.Spot
	for waiting := -2; waiting <= 2; waiting++ {
		s := nobody(t, 2)
		all = append(all, s)
		if waiting >= -1 {
			grants(t, s, 7, api.IS)
			grants(t, s, 9, api.S)
		}
		if waiting >= 1 {
			waits(t, s, 7, api.X)
		}
		if waiting >= 2 {
			waits(t, s, 10, api.S)
		}
	}
	return all
}

func TestAskOfOnesThatMayNotBe(t *testing.T) {
	for _, s := range some(t) {
		for _, n := range wrongNumbers {
			for _, m := range modes {
				for _, other := range append(slices.Clone(numbers), wrongNumbers...) {
					refuses(t, s, n, other, m, api.ErrArg)
					refuses(t, s, other, n, m, api.ErrArg)
				}
				more(t, s, n, m, 0)
			}
			check.Stop(t)
		}
		for _, m := range wrongModes {
			for _, n := range append(slices.Clone(numbers), 0, -1, 1048577) {
				refuses(t, s, n, 1, m, api.ErrArg)
				refuses(t, s, 1, n, m, api.ErrArg)
				more(t, s, n, m, 0)
			}
			check.Stop(t)
		}
	}
}

func TestAskOfOneThatWaits(t *testing.T) {
	for _, limit := range []int{2, 3, 64} {
		s := nobody(t, limit)
		grants(t, s, 7, api.IS)
		grants(t, s, 9, api.S)
		waits(t, s, 7, api.IX)
		waits(t, s, 10, api.S)
		for _, m := range modes {
			for _, seq := range numbers {
				refuses(t, s, 7, seq, m, api.ErrBusy) // of IS, too, which it has
				refuses(t, s, 10, seq, m, api.ErrBusy)
			}
			more(t, s, 7, m, 0)
			more(t, s, 10, m, 0)
		}
		tells(t, s, "7IS 9S | 7.107IX^ 10.110S | 7.107>9 10.110>7.107")
	}
}

func TestAskOfWhatItHas(t *testing.T) {
	for _, has := range modes {
		for _, m := range modes {
			if !mode.Covers(has, m) {
				continue
			}
			s := nobody(t, 2)
			grants(t, s, 7, has)
			grants(t, s, 7, m)
			tells(t, s, "7"+check.Mode(has)+" |  | ")
			waits(t, s, 8, api.X)
			waits(t, s, 9, api.X)
			before := of(s)
			more(t, s, 7, m, 0)
			grants(t, s, 7, m) // though others wait, and the line is full
			if now := of(s); now != before {
				t.Errorf("%s was asked by who has %s, and changed %s to %s", check.Mode(m), check.Mode(has), before, now)
			}
		}
	}
}

// both calls f for each two modes.
func both(f func(a, b api.Mode)) {
	for _, a := range modes {
		for _, b := range modes {
			f(a, b)
		}
	}
}

// least is the least above two modes.
func least(a, b api.Mode) api.Mode {
	m, _ := mode.Least(a, b)
	return m
}

func TestAskOfWhoHasItAlone(t *testing.T) {
	both(func(first, then api.Mode) {
		s := nobody(t, 1)
		grants(t, s, 7, first)
		more(t, s, 7, then, 0)
		grants(t, s, 7, then)
		tells(t, s, "7"+check.Mode(least(first, then))+" |  | ")
		has(t, s, 7, least(first, then))
		waits(t, s, 8, api.X)
		frees(t, s, 7, "8.108X")
	})
}

func TestAskOfWhoHasNone(t *testing.T) {
	both(func(has, m api.Mode) {
		s := nobody(t, 1)
		grants(t, s, 9, has)
		more(t, s, 8, m, 1)
		if mode.Together(has, m) {
			grants(t, s, 8, m)
			tells(t, s, "9"+check.Mode(has)+" 8"+check.Mode(m)+" |  | ")
			return
		}
		waits(t, s, 8, m)
		tells(t, s, "9"+check.Mode(has)+" | 8.108"+check.Mode(m)+" | 8.108>9")
	})
}

func TestAskOfWhoHasNoneWhereOthersWait(t *testing.T) {
	both(func(first, m api.Mode) {
		s := nobody(t, 2)
		grants(t, s, 9, first)
		waits(t, s, 3, api.X)
		more(t, s, 8, m, 1)
		waits(t, s, 8, m) // though it may go together with the holder's
		edges := "3.103>9 8.108>3.103"
		if !mode.Together(first, m) {
			edges += " 8.108>9"
		}
		tells(t, s, "9"+check.Mode(first)+" | 3.103X 8.108"+check.Mode(m)+" | "+edges)
	})
}

// two is a spot of that limit that 4 and 6 have in those modes, in that order, and in which so many wait for X.
func two(t *testing.T, limit int, first, then api.Mode, waiting int) *spot.Spot {
	t.Helper()
	s := nobody(t, limit)
	grants(t, s, 4, first)
	grants(t, s, 6, then)
	for tx := 11; tx <= 10+waiting; tx++ {
		waits(t, s, tx, api.X)
	}
	return s
}

// goesUp checks what becomes of it that 4, who has a mode beside 6, asks for one: that it goes up to their least though others wait, or waits for it ahead of them, if there is room.
func goesUp(t *testing.T, s *spot.Spot, first, then, m api.Mode, full bool) {
	t.Helper()
	aim, others := least(first, m), s.Waiting()
	before, beside := "4"+check.Mode(first), " 6"+check.Mode(then)
	switch {
	case mode.Together(aim, then):
		more(t, s, 4, m, 0)
		grants(t, s, 4, m)
		has(t, s, 4, aim)
		before = "4" + check.Mode(aim)
	case full:
		more(t, s, 4, m, 1)
		refuses(t, s, 4, 104, m, api.ErrLong)
		has(t, s, 4, first)
	default:
		more(t, s, 4, m, 1)
		waits(t, s, 4, m)
		has(t, s, 4, first)
		others = append([]api.Wait{{Tx: 4, Seq: 104, Mode: aim, Up: true}}, others...)
	}
	if got := check.Held(s.Holders()); got != before+beside {
		t.Errorf("4 had %s, 6 %s, 4 asked %s: %s hold it", check.Mode(first), check.Mode(then), check.Mode(m), got)
	}
	if got := s.Waiting(); !slices.Equal(got, others) {
		t.Errorf("4 had %s, 6 %s, 4 asked %s: %s wait", check.Mode(first), check.Mode(then), check.Mode(m), check.Queued(got))
	}
}

func TestAskForMoreOfWhoHasIt(t *testing.T) {
	both(func(first, then api.Mode) {
		if !mode.Together(first, then) {
			return
		}
		for _, m := range modes {
			for limit := 1; limit <= 3; limit++ {
				for waiting := 0; waiting <= limit; waiting++ {
					goesUp(t, two(t, limit, first, then, waiting), first, then, m, waiting == limit)
				}
			}
		}
	})
}

func TestAskOfAFullLine(t *testing.T) {
	for limit := 1; limit <= 64; limit++ {
		s := nobody(t, limit)
		for tx := 1; tx <= 66; tx++ {
			grants(t, s, tx, api.IS)
		}
		grants(t, s, 66, api.S)
		for tx := 1; tx <= limit; tx++ { // both those that have a lock and those that have none are counted
			if tx%3 == 0 {
				waits(t, s, tx, api.IX)
			} else {
				waits(t, s, 100+tx, api.IX)
			}
		}
		before := of(s)
		for _, m := range modes {
			refuses(t, s, 99, 1, m, api.ErrLong)
			more(t, s, 99, m, 1)
		}
		refuses(t, s, 65, 1, api.X, api.ErrLong)
		more(t, s, 65, api.X, 1)
		refuses(t, s, 65, 0, api.X, api.ErrArg)
		refuses(t, s, 101, 1, api.X, api.ErrBusy)
		tells(t, s, before)
		grants(t, s, 65, api.IS)
		tells(t, s, before)
		grants(t, s, 65, api.S)
		has(t, s, 65, api.S)
		check.Stop(t)
	}
}

func TestOneThatWentMakesRoom(t *testing.T) {
	s := nobody(t, 2)
	grants(t, s, 1, api.X)
	waits(t, s, 2, api.S)
	waits(t, s, 3, api.X)
	refuses(t, s, 4, 104, api.S, api.ErrLong)
	frees(t, s, 3, "")
	waits(t, s, 4, api.S)
	refuses(t, s, 3, 103, api.X, api.ErrLong)
	frees(t, s, 1, "2.102S 4.104S")
	waits(t, s, 3, api.X)
	waits(t, s, 2, api.X)
	refuses(t, s, 4, 104, api.X, api.ErrLong)
	tells(t, s, "2S 4S | 2.102X^ 3.103X | 2.102>4 3.103>2 3.103>4")
}

func TestHoldersAreInTheOrderInWhichTheyCame(t *testing.T) {
	s := nobody(t, 64)
	var want []api.Hold
	for i := range 500 {
		tx := 1 + i*37%500 // neither rising nor falling
		grants(t, s, tx, api.IS)
		want = append(want, api.Hold{Tx: tx, Mode: api.IS})
	}
	for i := 0; i < 500; i += 7 { // who goes up keeps its place
		grants(t, s, want[i].Tx, api.IX)
		want[i].Mode = api.IX
	}
	for i := 480; i > 0; i -= 11 { // who goes and comes again is the last one
		h := want[i]
		want = append(slices.Delete(want, i, i+1), h)
		frees(t, s, h.Tx, "")
		grants(t, s, h.Tx, h.Mode)
	}
	if got := s.Holders(); !slices.Equal(got, want) {
		t.Errorf("%s hold it, want %s", check.Held(got), check.Held(want))
	}
}

// P8.2

func TestFreeOfWhoHasNothing(t *testing.T) {
	for _, s := range some(t) {
		for _, tx := range slices.Concat(wrongNumbers, []int{1, 2, 6, 8, 11, 256, 263, 265, 266, 65543, 1048575, 1048576}) {
			freesNone(t, s, tx, api.ErrNone)
			has(t, s, tx, api.None)
		}
	}
}

func TestFreeTwice(t *testing.T) {
	s := nobody(t, 64)
	grants(t, s, 1, api.X)
	waits(t, s, 2, api.X)
	waits(t, s, 3, api.X)
	frees(t, s, 2, "")
	freesNone(t, s, 2, api.ErrNone)
	frees(t, s, 1, "3.103X")
	freesNone(t, s, 1, api.ErrNone)
	frees(t, s, 3, "")
	freesNone(t, s, 3, api.ErrNone)
	tells(t, s, " |  | ")
}

func TestFreeOfAHolder(t *testing.T) {
	s := nobody(t, 64)
	grants(t, s, 5, api.S)
	grants(t, s, 3, api.IS)
	grants(t, s, 4, api.S)
	waits(t, s, 1, api.IX)
	waits(t, s, 2, api.IS)
	frees(t, s, 3, "")
	tells(t, s, "5S 4S | 1.101IX 2.102IS | 1.101>4 1.101>5 2.102>1.101")
	frees(t, s, 5, "")
	tells(t, s, "4S | 1.101IX 2.102IS | 1.101>4 2.102>1.101")
	frees(t, s, 4, "1.101IX 2.102IS")
	tells(t, s, "1IX 2IS |  | ")
}

func TestFreeMovesUpToTheFirstThatCannot(t *testing.T) {
	s := nobody(t, 64)
	grants(t, s, 9, api.X)
	waits(t, s, 8, api.S)
	waits(t, s, 1, api.IS)
	waits(t, s, 7, api.S)
	waits(t, s, 2, api.IX) // it can't have it, as 8 and 7 have S then
	waits(t, s, 6, api.S)  // it could, but doesn't pass 2
	waits(t, s, 3, api.IS)
	frees(t, s, 9, "8.108S 1.101IS 7.107S")
	tells(t, s, "8S 1IS 7S | 2.102IX 6.106S 3.103IS | 2.102>7 2.102>8 3.103>2.102 3.103>6.106 6.106>2.102")
	frees(t, s, 8, "")
	frees(t, s, 7, "2.102IX")
	tells(t, s, "1IS 2IX | 6.106S 3.103IS | 3.103>6.106 6.106>2")
	frees(t, s, 2, "6.106S 3.103IS")
	tells(t, s, "1IS 6S 3IS |  | ")
}

func TestFreeOfOneThatWaits(t *testing.T) {
	s := nobody(t, 64)
	grants(t, s, 9, api.S)
	waits(t, s, 1, api.X)
	waits(t, s, 2, api.S)
	waits(t, s, 3, api.IX)
	waits(t, s, 4, api.IS)
	frees(t, s, 2, "") // in the midst: all others wait as they did
	tells(t, s, "9S | 1.101X 3.103IX 4.104IS | 1.101>9 3.103>1.101 3.103>9 4.104>1.101 4.104>3.103")
	waits(t, s, 2, api.S)
	frees(t, s, 3, "")
	frees(t, s, 1, "4.104IS 2.102S") // the first one: those behind it that can have their modes have them
	tells(t, s, "9S 4IS 2S |  | ")
	waits(t, s, 5, api.IX)
	waits(t, s, 6, api.IS)
	frees(t, s, 6, "") // the last one
	tells(t, s, "9S 4IS 2S | 5.105IX | 5.105>2 5.105>9")
}

func TestFreeOfOneThatHasALockAndWaits(t *testing.T) {
	s := nobody(t, 64)
	grants(t, s, 1, api.S)
	grants(t, s, 2, api.IS)
	grants(t, s, 3, api.IS)
	waits(t, s, 3, api.IX)
	waits(t, s, 2, api.IX)
	waits(t, s, 4, api.IX)
	waits(t, s, 1, api.IX) // its aim is X
	tells(t, s, "1S 2IS 3IS | 3.103IX^ 2.102IX^ 1.101X^ 4.104IX | 1.101>2 1.101>3 2.102>1 2.102>3.103 3.103>1 4.104>1 4.104>2.102 4.104>3.103")
	frees(t, s, 1, "3.103IX^ 2.102IX^ 4.104IX")
	tells(t, s, "2IX 3IX 4IX |  | ")
}

func TestFreeMovesUpOneThatHasALock(t *testing.T) {
	both(func(first, then api.Mode) {
		both(func(m, behind api.Mode) {
			aim := least(first, m)
			if !mode.Together(first, then) || mode.Together(aim, then) {
				return
			}
			s := two(t, 3, first, then, 0)
			waits(t, s, 4, m)
			waits(t, s, 5, behind)
			if !mode.Together(aim, behind) {
				frees(t, s, 6, "4.104"+check.Mode(aim)+"^")
				tells(t, s, "4"+check.Mode(aim)+" | 5.105"+check.Mode(behind)+" | 5.105>4")
				return
			}
			frees(t, s, 6, "4.104"+check.Mode(aim)+"^ 5.105"+check.Mode(behind))
			tells(t, s, "4"+check.Mode(aim)+" 5"+check.Mode(behind)+" |  | ")
		})
	})
}

func TestWhoMovesUpKeepsItsPlaceOrIsTheLast(t *testing.T) {
	s := nobody(t, 64)
	grants(t, s, 3, api.IS)
	grants(t, s, 9, api.S)
	grants(t, s, 2, api.IS)
	grants(t, s, 1, api.IS)
	waits(t, s, 8, api.IX)
	waits(t, s, 2, api.IX)
	waits(t, s, 7, api.IX)
	waits(t, s, 3, api.IX)
	frees(t, s, 9, "2.102IX^ 3.103IX^ 8.108IX 7.107IX")
	tells(t, s, "3IX 2IX 1IS 8IX 7IX |  | ")
}

func TestTwoThatHaveALockWaitForEachOther(t *testing.T) {
	s := nobody(t, 64)
	grants(t, s, 1, api.S)
	grants(t, s, 2, api.S)
	waits(t, s, 2, api.X)
	waits(t, s, 1, api.X)
	tells(t, s, "1S 2S | 2.102X^ 1.101X^ | 1.101>2 2.102>1")
	frees(t, s, 2, "1.101X^")
	tells(t, s, "1X |  | ")
}

// P8.3

func TestModeOfEach(t *testing.T) {
	s := nobody(t, 64)
	grants(t, s, 1048576, api.IS)
	grants(t, s, 257, api.S)
	waits(t, s, 1048576, api.X)
	waits(t, s, 258, api.IS)
	has(t, s, 1048576, api.IS)
	has(t, s, 257, api.S)
	for _, tx := range slices.Concat(wrongNumbers, []int{258, 1, 2, 256, 259, 1048575}) {
		has(t, s, tx, api.None)
	}
}

func TestEdgesToAHolderAheadStandOnce(t *testing.T) {
	s := nobody(t, 64)
	grants(t, s, 1, api.IS)
	grants(t, s, 2, api.S)
	waits(t, s, 1, api.X)  // a holder, too, that is ahead
	waits(t, s, 3, api.IS) // goes together with both holders'
	waits(t, s, 4, api.IX) // with 1's alone
	waits(t, s, 5, api.X)  // with neither
	tells(t, s, "1IS 2S | 1.101X^ 3.103IS 4.104IX 5.105X | 1.101>2 3.103>1.101 4.104>1.101 4.104>2 4.104>3.103 5.105>1 5.105>2 5.105>3.103 5.105>4.104")
}

func TestEdgesAreOfTheAim(t *testing.T) {
	s := nobody(t, 64)
	grants(t, s, 1, api.IX)
	grants(t, s, 2, api.IS)
	grants(t, s, 3, api.IX)
	waits(t, s, 1, api.S) // S goes with 2's IS, its aim X doesn't
	tells(t, s, "1IX 2IS 3IX | 1.101X^ | 1.101>2 1.101>3")
	frees(t, s, 3, "")
	tells(t, s, "1IX 2IS | 1.101X^ | 1.101>2")
}

func TestEdgesStandByTheirNumbers(t *testing.T) {
	s := nobody(t, 64)
	for _, tx := range []int{100, 20, 3, 1048576, 65537} {
		grants(t, s, tx, api.S)
	}
	for i, tx := range []int{9, 100, 8, 1000, 3} {
		if got, err := s.Ask(tx, 1048576-i, api.X); got || err != nil {
			t.Errorf("Ask(%d) = %v, %v", tx, got, err)
		}
	}
	tells(t, s, "100S 20S 3S 1048576S 65537S | 100.1048575X^ 3.1048572X^ 9.1048576X 8.1048574X 1000.1048573X | "+
		"3.1048572>20 3.1048572>100 3.1048572>65537 3.1048572>1048576 "+
		"8.1048574>3 8.1048574>9.1048576 8.1048574>20 8.1048574>100 8.1048574>65537 8.1048574>1048576 "+
		"9.1048576>3 9.1048576>20 9.1048576>100 9.1048576>65537 9.1048576>1048576 "+
		"100.1048575>3 100.1048575>20 100.1048575>65537 100.1048575>1048576 "+
		"1000.1048573>3 1000.1048573>8.1048574 1000.1048573>9.1048576 1000.1048573>20 1000.1048573>100 1000.1048573>65537 1000.1048573>1048576")
}

func TestTellingChangesNothing(t *testing.T) {
	for _, s := range some(t) {
		before := of(s)
		for tx := -1; tx < 12; tx++ {
			for m := api.Mode(-1); m < 6; m++ {
				s.More(tx, m)
				s.Mode(tx)
				tells(t, s, before)
			}
		}
	}
}

func TestWhatIsToldIsNewMemory(t *testing.T) {
	s := nobody(t, 64)
	for tx := 1; tx <= 9; tx++ {
		grants(t, s, tx, api.IS)
	}
	grants(t, s, 9, api.S)
	for tx := 1; tx <= 5; tx++ {
		waits(t, s, 2*tx, api.IX)
		holders, waiting, edges, before := s.Holders(), s.Waiting(), s.Edges(), of(s)
		_, _, _ = append(holders, api.Hold{}), append(waiting, api.Wait{}), append(edges, api.Edge{})
		tells(t, s, before)
		check.Spoil(holders, api.Hold{Tx: -1, Mode: -1})
		check.Spoil(waiting, api.Wait{Tx: -1, Seq: -1, Mode: -1})
		check.Spoil(edges, api.Edge{From: -1, Seq: -1, To: -1, ToSeq: -1})
		tells(t, s, before)
	}
	before := of(s)
	holders, waiting, edges := s.Holders(), s.Waiting(), s.Edges()
	granted, err := s.Free(9)
	if check.Queued(granted) != check.Queued(waiting) || err != nil {
		t.Errorf("Free(9) = %s, %v", check.Queued(granted), err)
	}
	check.Spoil(granted, api.Wait{Tx: -1, Seq: -1, Mode: -1})
	tells(t, s, "1IS 2IX 3IS 4IX 5IS 6IX 7IS 8IX 10IX |  | ")
	for tx := 1; tx <= 20; tx++ {
		s.Ask(tx, 1, api.X)
		s.Free(tx - 3)
	}
	if check.Held(holders)+" | "+check.Queued(waiting)+" | "+check.Edged(edges) != before {
		t.Errorf("what was told is %s | %s | %s now, want %s", check.Held(holders), check.Queued(waiting), check.Edged(edges), before)
	}
}

func TestSpotsAreApart(t *testing.T) {
	a, b, c := nobody(t, 1), nobody(t, 1), nobody(t, 2)
	grants(t, a, 1, api.X)
	grants(t, b, 1, api.S)
	grants(t, b, 2, api.S)
	waits(t, a, 2, api.S)
	waits(t, b, 3, api.X)
	grants(t, c, 2, api.X)
	refuses(t, a, 3, 103, api.S, api.ErrLong)
	waits(t, c, 3, api.S)
	waits(t, c, 1, api.S)
	frees(t, a, 1, "2.102S")
	tells(t, a, "2S |  | ")
	tells(t, b, "1S 2S | 3.103X | 3.103>1 3.103>2")
	tells(t, c, "2X | 3.103S 1.101S | 1.101>2 1.101>3.103 3.103>2")
}

func TestNilSpot(t *testing.T) {
	var s *spot.Spot
	for _, tx := range slices.Concat(numbers, wrongNumbers) {
		for _, m := range append(slices.Clone(wrongModes), modes...) {
			refuses(t, s, tx, 1, m, api.ErrArg)
			refuses(t, s, 1, tx, m, api.ErrArg)
			more(t, s, tx, m, 0)
		}
		freesNone(t, s, tx, api.ErrArg)
		has(t, s, tx, api.None)
		check.Stop(t)
	}
	tells(t, s, " |  | ")
}

// The document's example.

func TestExample(t *testing.T) {
	s := nobody(t, 64)
	grants(t, s, 1, api.S)
	grants(t, s, 2, api.S)
	waits(t, s, 1, api.X)
	waits(t, s, 3, api.IS)
	tells(t, s, "1S 2S | 1.101X^ 3.103IS | 1.101>2 3.103>1.101")
	frees(t, s, 2, "1.101X^")
	tells(t, s, "1X | 3.103IS | 3.103>1")
}
