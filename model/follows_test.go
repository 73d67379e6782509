package model_test

import (
	"testing"

	"catchbolt/api"
	"catchbolt/check"
	"catchbolt/mode"
	"catchbolt/model"
)

// P20.3

// come is a run in which all that may not come is left out.
func come(q chance, by *uint64, b book) book {
	if e := q.pick(by, b); b.against(e) == api.OK {
		return b.with(e)
	}
	return b
}

// beginnings checks that each beginning of a trace that may be may be, and that as many are committed in it.
func beginnings(t *testing.T, b book) {
	t.Helper()
	for many := range len(b) + 1 {
		holds(t, b[:many], b[:many].serial()...)
		check.Stop(t)
	}
}

// alone are the events of those transactions alone, one behind the other, as if one client had begun them all.
func alone(b book, serial []int) ([]api.Event, []int) {
	var l []api.Event
	var numbers []int
	for i, tx := range serial {
		for _, e := range b {
			if e.Tx == tx {
				e.Tx, e.Client = i+1, min(1, e.Client)
				l = append(l, e)
			}
		}
		numbers = append(numbers, i+1)
	}
	return l, numbers
}

// inOrder checks that of two committed ones whose modes clash on a resource the earlier one was committed ahead of the later one's getting it.
func inOrder(t *testing.T, b book) {
	t.Helper()
	for place, one := range b {
		for _, other := range b[:place] {
			if one.Kind != granted || other.Kind != granted || one.Tx == other.Tx || one.At != other.At || mode.Together(one.Mode, other.Mode) {
				continue
			}
			first, second := b.last(other.Tx, committed), b.last(one.Tx, committed)
			if first >= 0 && second >= 0 && first > place {
				t.Errorf("%d and %d clash on %s, of %s", one.Tx, other.Tx, check.Res(one.At), check.Traced(b))
			}
		}
	}
}

// follows checks P20.3 of a trace that may be.
func follows(t *testing.T, b book) {
	t.Helper()
	serial, err := model.Serial(b)
	if err != nil {
		t.Errorf("Serial(%s) = %v", check.Traced(b), err)
	}
	l, numbers := alone(b, serial)
	holds(t, l, numbers...)
	inOrder(t, b)
}

func TestBeginningsOfRuns(t *testing.T) {
	for _, b := range eachRun(8, 400, come) {
		beginnings(t, b)
	}
}

func TestCommittedOnesOfRunsCouldHaveRunAlone(t *testing.T) {
	many := 0
	for _, b := range eachRun(24, 400, come) {
		follows(t, b)
		many += len(b.serial())
		check.Stop(t)
	}
	if many < 1000 {
		t.Error("committed:", many)
	}
}

func TestCommittedOnesOfSmallWorldsCouldHaveRunAlone(t *testing.T) {
	for _, w := range worlds() {
		w.eachState(func(b book) {
			follows(t, b)
			check.Stop(t)
		})
	}
}
