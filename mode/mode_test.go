package mode_test

import (
	"errors"
	"math"
	"testing"

	"catchbolt/api"
	"catchbolt/check"
	"catchbolt/mode"
)

var modes = []api.Mode{api.None, api.IS, api.IX, api.S, api.X}

// wrong are numbers that are no modes; 8, 32, 64, 256 and their like would be modes again if a number were cut or its shift wrapped round.
var wrong = []api.Mode{
	-1, -2, -3, -4, -5, -8, -64, -256, math.MinInt32, math.MinInt64, math.MinInt64 + 4,
	5, 6, 7, 8, 9, 10, 11, 12, 16, 31, 32, 33, 36, 63, 64, 65, 68, 128, 255, 256, 257, 260,
	1 << 16, 1<<16 + 1, 1 << 32, 1<<32 + 4, 1 << 62, math.MaxInt32, math.MaxInt64,
}

// The pairs of the document's words, by the modes' numbers.
var (
	together = []string{
		"11111",
		"11110",
		"11100",
		"11010",
		"10000",
	}
	covers = []string{
		"10000",
		"11000",
		"11100",
		"11010",
		"11111",
	}
	least = []string{
		"01234",
		"11234",
		"22244",
		"33434",
		"44444",
	}
)

// eachPair calls f for each pair of modes.
func eachPair(f func(a, b api.Mode)) {
	for _, a := range modes {
		for _, b := range modes {
			f(a, b)
		}
	}
}

// eachTriple calls f for any three modes.
func eachTriple(f func(a, b, c api.Mode)) {
	eachPair(func(a, b api.Mode) {
		for _, c := range modes {
			f(a, b, c)
		}
	})
}

// leastOf is the least above two modes, which must be there.
func leastOf(t *testing.T, a, b api.Mode) api.Mode {
	t.Helper()
	m, err := mode.Least(a, b)
	if err != nil {
		t.Fatalf("Least(%d, %d): %v", a, b, err)
	}
	return m
}

// P1.1

func TestOkOfModes(t *testing.T) {
	for _, m := range modes {
		if !mode.Ok(m) {
			t.Errorf("Ok(%d): false", m)
		}
	}
}

func TestOkOfNoModes(t *testing.T) {
	for _, m := range wrong {
		if mode.Ok(m) {
			t.Errorf("Ok(%d): true", m)
		}
	}
}

func TestOkOfAllNearby(t *testing.T) {
	for m := api.Mode(-1000); m <= 1000; m++ {
		if got, want := mode.Ok(m), m >= 0 && m <= 4; got != want {
			t.Errorf("Ok(%d): %v", m, got)
		}
	}
}

func TestTogetherOfPairs(t *testing.T) {
	eachPair(func(a, b api.Mode) {
		if got, want := mode.Together(a, b), together[a][b] == '1'; got != want {
			t.Errorf("Together(%d, %d): %v", a, b, got)
		}
	})
}

func TestCoversOfPairs(t *testing.T) {
	eachPair(func(a, b api.Mode) {
		if got, want := mode.Covers(a, b), covers[a][b] == '1'; got != want {
			t.Errorf("Covers(%d, %d): %v", a, b, got)
		}
	})
}

// pairFalse checks that neither question says yes of a pair.
func pairFalse(t *testing.T, a, b api.Mode) {
	t.Helper()
	if mode.Together(a, b) {
		t.Errorf("Together(%d, %d): true", a, b)
	}
	if mode.Covers(a, b) {
		t.Errorf("Covers(%d, %d): true", a, b)
	}
}

func TestPairsWithNoModes(t *testing.T) {
	for _, w := range wrong {
		for _, m := range modes {
			pairFalse(t, w, m)
			pairFalse(t, m, w)
		}
		for _, v := range wrong { // itself, too: a number that is no mode covers nothing
			pairFalse(t, w, v)
		}
	}
}

// P1.2

func TestLeastOfPairs(t *testing.T) {
	eachPair(func(a, b api.Mode) {
		if got, want := leastOf(t, a, b), api.Mode(least[a][b]-'0'); got != want {
			t.Errorf("Least(%d, %d): %d, not %d", a, b, got, want)
		}
	})
}

// leastRefused checks that of a pair there is no least above.
func leastRefused(t *testing.T, a, b api.Mode) {
	t.Helper()
	if m, err := mode.Least(a, b); m != api.None || !check.Plain(err, api.ErrArg) {
		t.Errorf("Least(%d, %d): %d, %v", a, b, m, err)
	}
}

func TestLeastWithNoModes(t *testing.T) {
	for _, w := range wrong {
		for _, m := range modes {
			leastRefused(t, w, m)
			leastRefused(t, m, w)
		}
		for _, v := range wrong {
			leastRefused(t, w, v)
		}
	}
}

func TestNeedOfRowModes(t *testing.T) {
	for _, q := range []struct{ m, need api.Mode }{{api.None, api.None}, {api.S, api.IS}, {api.X, api.IX}} {
		if n, err := mode.Need(q.m); n != q.need || err != nil {
			t.Errorf("Need(%d): %d, %v", q.m, n, err)
		}
	}
}

func TestNeedOfTableModes(t *testing.T) {
	for _, m := range []api.Mode{api.IS, api.IX} {
		if n, err := mode.Need(m); n != api.None || !check.Plain(err, api.ErrMode) {
			t.Errorf("Need(%d): %d, %v", m, n, err)
		}
	}
}

func TestNeedOfNoModes(t *testing.T) {
	for _, m := range wrong {
		if n, err := mode.Need(m); n != api.None || !check.Plain(err, api.ErrArg) {
			t.Errorf("Need(%d): %d, %v", m, n, err)
		}
	}
}

// P1.3

func TestTogetherInEachOthersPlace(t *testing.T) {
	eachPair(func(a, b api.Mode) {
		if mode.Together(a, b) != mode.Together(b, a) {
			t.Errorf("Together(%d, %d) isn't Together(%d, %d)", a, b, b, a)
		}
	})
}

func TestTogetherWithWhatIsCovered(t *testing.T) {
	eachTriple(func(a, b, c api.Mode) {
		if mode.Together(a, b) && mode.Covers(b, c) && !mode.Together(a, c) {
			t.Errorf("%d goes with %d, but not with %d, which that covers", a, b, c)
		}
	})
}

func TestLeastInEachOthersPlace(t *testing.T) {
	eachPair(func(a, b api.Mode) {
		if leastOf(t, a, b) != leastOf(t, b, a) {
			t.Errorf("Least(%d, %d) isn't Least(%d, %d)", a, b, b, a)
		}
	})
}

func TestLeastOfThreeInAnyOrder(t *testing.T) {
	eachTriple(func(a, b, c api.Mode) {
		m := leastOf(t, leastOf(t, a, b), c)
		if leastOf(t, a, leastOf(t, b, c)) != m || leastOf(t, leastOf(t, a, c), b) != m {
			t.Errorf("Least of %d, %d, %d hangs on their order", a, b, c)
		}
	})
}

func TestLeastCoversBothAndIsCoveredByAllThatDo(t *testing.T) {
	eachTriple(func(a, b, c api.Mode) {
		m := leastOf(t, a, b)
		if !mode.Covers(m, a) || !mode.Covers(m, b) {
			t.Errorf("Least(%d, %d), %d, doesn't cover both", a, b, m)
		}
		if mode.Covers(c, a) && mode.Covers(c, b) && !mode.Covers(c, m) {
			t.Errorf("Least(%d, %d), %d, isn't covered by %d, which covers both", a, b, m, c)
		}
	})
}

// The document's examples.

func TestExamples(t *testing.T) {
	if mode.Together(api.IX, api.S) {
		t.Error("Together(IX, S): true")
	}
	if m := leastOf(t, api.IX, api.S); m != api.X {
		t.Error("Least(IX, S):", m)
	}
	if n, err := mode.Need(api.X); n != api.IX || err != nil {
		t.Error("Need(X):", n, err)
	}
	if _, err := mode.Need(api.IS); !errors.Is(err, api.ErrMode) {
		t.Error("Need(IS):", err)
	}
}
