package res_test

import (
	"errors"
	"math"
	"slices"
	"strconv"
	"strings"
	"testing"

	"catchbolt/api"
	"catchbolt/check"
	"catchbolt/res"
)

// numbers are those around the edges of a Table and a Row, and far beyond; 256, 1<<16 and 1<<32 with a little more would be near again if a number were cut.
var numbers = []int{
	math.MinInt64, math.MinInt64 + 1, math.MinInt32, -1 << 32, -256, -250, -2, -1,
	0, 1, 2, 3, 125, 248, 249, 250, 251, 252, 255, 256, 257, 300, 999, 1000,
	1 << 16, 1<<16 + 3, 1<<32 + 3, 1 << 62, math.MaxInt32, math.MaxInt64 - 1, math.MaxInt64,
}

// eachAny calls f for resources of which many may not be.
func eachAny(f func(r api.Res)) {
	for _, t := range numbers {
		for _, r := range numbers {
			f(api.Res{Table: t, Row: r})
		}
	}
}

// eachGood calls f for each resource that may be, in their order.
func eachGood(f func(r api.Res)) {
	for t := 1; t <= 250; t++ {
		for r := 0; r <= 250; r++ {
			f(api.Res{Table: t, Row: r})
		}
	}
}

// mayBe is the document's word of a resource.
func mayBe(r api.Res) bool { return 1 <= r.Table && r.Table <= 250 && 0 <= r.Row && r.Row <= 250 }

// textOf is a resource's text, which must be there.
func textOf(t *testing.T, r api.Res) string {
	t.Helper()
	s, err := res.Text(r)
	if err != nil {
		t.Fatalf("Text(%v): %v", r, err)
	}
	return s
}

// parsed checks that a text is that resource's.
func parsed(t *testing.T, s string, want api.Res) {
	t.Helper()
	if r, err := res.Parse(s); r != want || err != nil {
		t.Errorf("Parse(%q): %v, %v, not %v", s, r, err, want)
	}
}

// refused checks that a text is none's, with a fault at that place.
func refused(t *testing.T, s string, at int) {
	t.Helper()
	if r, err := res.Parse(s); r != (api.Res{}) || !check.Fault(err, at, api.ErrForm) {
		t.Errorf("Parse(%q): %v, %v, not a fault at %d", s, r, err, at)
	}
}

// P2.1

func TestOkOfAllThatMayBe(t *testing.T) {
	eachGood(func(r api.Res) {
		if !res.Ok(r) {
			t.Errorf("Ok(%v): false", r)
		}
	})
}

func TestOkOfAny(t *testing.T) {
	eachAny(func(r api.Res) {
		if res.Ok(r) != mayBe(r) {
			t.Errorf("Ok(%v): %v", r, res.Ok(r))
		}
	})
}

func TestOkAtTheEdges(t *testing.T) {
	for _, q := range []struct {
		r  api.Res
		ok bool
	}{
		{api.Res{Table: 1}, true},
		{api.Res{Table: 0}, false},
		{api.Res{Table: -1}, false},
		{api.Res{Table: 250}, true},
		{api.Res{Table: 251}, false},
		{api.Res{Table: 7, Row: 0}, true},
		{api.Res{Table: 7, Row: -1}, false},
		{api.Res{Table: 7, Row: 1}, true},
		{api.Res{Table: 7, Row: 250}, true},
		{api.Res{Table: 7, Row: 251}, false},
		{api.Res{Table: 0, Row: 1}, false},
		{api.Res{Table: 251, Row: 250}, false},
	} {
		if res.Ok(q.r) != q.ok {
			t.Errorf("Ok(%v): %v", q.r, !q.ok)
		}
	}
}

func TestTableOfAllThatMayBe(t *testing.T) {
	eachGood(func(r api.Res) {
		if g, err := res.Table(r); g != (api.Res{Table: r.Table}) || err != nil {
			t.Errorf("Table(%v): %v, %v", r, g, err)
		}
	})
}

func TestTableOfOnesThatMayNotBe(t *testing.T) {
	eachAny(func(r api.Res) {
		if mayBe(r) {
			return
		}
		if g, err := res.Table(r); g != (api.Res{}) || !check.Plain(err, api.ErrArg) {
			t.Errorf("Table(%v): %v, %v", r, g, err)
		}
	})
}

func TestLessOfAny(t *testing.T) {
	eachAny(func(a api.Res) {
		eachAny(func(b api.Res) {
			if got, want := res.Less(a, b), a.Table < b.Table || a.Table == b.Table && a.Row < b.Row; got != want {
				t.Fatalf("Less(%v, %v): %v", a, b, got)
			}
		})
	})
}

func TestLessOfAllThatMayBeInOrder(t *testing.T) {
	last := api.Res{}
	eachGood(func(r api.Res) {
		if !res.Less(last, r) || res.Less(r, last) || res.Less(r, r) {
			t.Errorf("%v doesn't stand behind %v alone", r, last)
		}
		last = r
	})
}

// mixed are n resources, any ones and many equal ones, in an order that each seed makes anew.
func mixed(n int, seed uint32) []api.Res {
	next := func() int {
		seed = seed*1664525 + 1013904223
		return numbers[int(seed>>8)%len(numbers)]
	}
	var l []api.Res
	for range n {
		l = append(l, api.Res{Table: next(), Row: next()})
	}
	return l
}

// counts is how often each resource is in a list.
func counts(l []api.Res) map[api.Res]int {
	m := map[api.Res]int{}
	for _, r := range l {
		m[r]++
	}
	return m
}

func TestSortOfAny(t *testing.T) {
	for n := 1; n <= 300; n++ {
		l := mixed(n, uint32(n))
		kept := slices.Clone(l)
		s := res.Sort(l)
		if !slices.Equal(l, kept) {
			t.Fatalf("Sort of %d changed what it was given", n)
		}
		if len(s) != n {
			t.Fatalf("Sort of %d: %d", n, len(s))
		}
		for i := 1; i < n; i++ {
			if res.Less(s[i], s[i-1]) {
				t.Fatalf("Sort of %d: %v behind %v", n, s[i], s[i-1])
			}
		}
		for r, k := range counts(l) {
			if counts(s)[r] != k {
				t.Fatalf("Sort of %d: %v %d times, not %d", n, r, counts(s)[r], k)
			}
		}
	}
}

func TestSortOfEqualOnesAndOnesThatMayNotBe(t *testing.T) {
	l := []api.Res{{Table: 3, Row: 14}, {Table: 3}, {Table: 251, Row: 1}, {Table: 3, Row: 14}, {Table: 0, Row: 300}, {Table: 3}, {Table: -1, Row: 5}, {Table: 2, Row: 250}, {Table: 3, Row: -4}}
	want := []api.Res{{Table: -1, Row: 5}, {Table: 0, Row: 300}, {Table: 2, Row: 250}, {Table: 3, Row: -4}, {Table: 3}, {Table: 3}, {Table: 3, Row: 14}, {Table: 3, Row: 14}, {Table: 251, Row: 1}}
	if s := res.Sort(l); !slices.Equal(s, want) {
		t.Errorf("Sort: %v", s)
	}
}

func TestSortOfAllThatMayBe(t *testing.T) {
	var l, want []api.Res
	eachGood(func(r api.Res) { want = append(want, r) })
	for i := range want { // 7,919 has no divisor in common with how many there are: each comes once
		l = append(l, want[i*7919%len(want)])
	}
	if !slices.Equal(res.Sort(l), want) {
		t.Error("Sort of all isn't all in order")
	}
}

func TestSortOfNone(t *testing.T) {
	if s := res.Sort(nil); len(s) != 0 {
		t.Error("Sort(nil):", s)
	}
	if s := res.Sort([]api.Res{}); len(s) != 0 {
		t.Error("Sort of an empty list:", s)
	}
}

func TestSortAnswersNewMemory(t *testing.T) {
	room := []api.Res{{Table: 2}, {Table: 1}, {Table: 8}, {Table: 9}}
	for n := range 3 { // of each length, behind which there is spare room
		given := slices.Clone(room)
		s := res.Sort(given[:n])
		for i := range s {
			s[i] = api.Res{Table: 5, Row: 5}
		}
		_ = append(s, api.Res{Table: 6}, api.Res{Table: 7})
		if !slices.Equal(given, room) {
			t.Errorf("Sort of %d: its answer is what was given: %v", n, given)
		}
	}
	given := []api.Res{{Table: 1}, {Table: 2}} // in order already: it is none the less copied
	s := res.Sort(given)
	given[0] = api.Res{Table: 9}
	if s[0] != (api.Res{Table: 1}) {
		t.Error("Sort kept what was given:", s)
	}
}

// P2.2

func TestShardOfAllThatMayBe(t *testing.T) {
	for n := 1; n <= 64; n++ {
		shard := 0
		for table := 1; table <= 250; table++ {
			shard++ // tables are dealt to the shards one by one, from the first one on
			if shard > n {
				shard = 1
			}
			for _, row := range []int{0, 1, 2, 63, 64, 65, 249, 250} {
				r := api.Res{Table: table, Row: row}
				if s, err := res.Shard(r, n); s != shard || err != nil {
					t.Fatalf("Shard(%v, %d): %d, %v, not %d", r, n, s, err, shard)
				}
			}
		}
	}
}

// shardRefused checks that a resource has no shard of so many.
func shardRefused(t *testing.T, r api.Res, n int, want api.Errno) {
	t.Helper()
	if s, err := res.Shard(r, n); s != 0 || !check.Plain(err, want) {
		t.Errorf("Shard(%v, %d): %d, %v, not %v", r, n, s, err, want)
	}
}

func TestShardOfNumbersOfShardsThatMayNotBe(t *testing.T) {
	for _, n := range numbers {
		if n >= 1 && n <= 64 {
			continue
		}
		for _, r := range []api.Res{{Table: 1}, {Table: 250, Row: 250}, {Table: 3, Row: 14}} {
			shardRefused(t, r, n, api.ErrRange)
		}
	}
	for _, n := range []int{-1, 0, 65, 66, 128} {
		shardRefused(t, api.Res{Table: 3}, n, api.ErrRange)
	}
}

func TestShardOfOnesThatMayNotBe(t *testing.T) {
	eachAny(func(r api.Res) {
		if mayBe(r) {
			return
		}
		for _, n := range []int{math.MinInt64, -1, 0, 1, 2, 64, 65, math.MaxInt64} { // ErrArg stands ahead of ErrRange
			shardRefused(t, r, n, api.ErrArg)
		}
	})
}

// P2.3

func TestTextOfSome(t *testing.T) {
	for _, q := range []struct {
		r api.Res
		s string
	}{
		{api.Res{Table: 3}, "3"},
		{api.Res{Table: 3, Row: 14}, "3.14"},
		{api.Res{Table: 1}, "1"},
		{api.Res{Table: 1, Row: 1}, "1.1"},
		{api.Res{Table: 10, Row: 100}, "10.100"},
		{api.Res{Table: 99, Row: 9}, "99.9"},
		{api.Res{Table: 250}, "250"},
		{api.Res{Table: 250, Row: 250}, "250.250"},
	} {
		if s := textOf(t, q.r); s != q.s {
			t.Errorf("Text(%v): %q, not %q", q.r, s, q.s)
		}
		parsed(t, q.s, q.r)
	}
}

func TestTextOfAllThatMayBe(t *testing.T) {
	eachGood(func(r api.Res) {
		want := strconv.Itoa(r.Table)
		if r.Row > 0 {
			want += "." + strconv.Itoa(r.Row)
		}
		if s := textOf(t, r); s != want {
			t.Errorf("Text(%v): %q, not %q", r, s, want)
		}
	})
}

func TestTextOfOnesThatMayNotBe(t *testing.T) {
	eachAny(func(r api.Res) {
		if mayBe(r) {
			return
		}
		if s, err := res.Text(r); s != "" || !check.Plain(err, api.ErrArg) {
			t.Errorf("Text(%v): %q, %v", r, s, err)
		}
	})
}

func TestParseOfTextsThatEndTooSoon(t *testing.T) {
	refused(t, "", 0)
	refused(t, "3.", 2)
	refused(t, "25.", 3)
	refused(t, "250.", 4)
}

func TestParseOfTextsThatBeginWithNought(t *testing.T) {
	refused(t, "0", 0)
	refused(t, "00", 0)
	refused(t, "03", 0)
	refused(t, "0.1", 0)
	refused(t, "3.0", 2)
	refused(t, "3.00", 2)
	refused(t, "3.014", 2)
	refused(t, "250.0", 4)
}

func TestParseOfNumbersThatAreMore(t *testing.T) {
	for n := 251; n <= 12000; n++ {
		s := strconv.Itoa(n)
		at := len("25")
		if s[:3] <= "250" { // 1000 and the like: it is the fourth digit by which they are more
			at = len("250")
		}
		refused(t, s, at)
		refused(t, s+".1", at)
		refused(t, "7."+s, 2+at)
		refused(t, "250."+s, 4+at)
	}
	for _, s := range []string{"18446744073709551617", "4294967299", "65539", "259"} { // some would be 1 or 3, were they cut
		at := len("18")
		if s[:3] <= "250" {
			at = len("184")
		}
		refused(t, s, at)
		refused(t, "12."+s, 3+at)
	}
	refused(t, strings.Repeat("1", 1<<20), 3)
	refused(t, "1."+strings.Repeat("1", 1<<20), 5)
}

func TestParseOfTextsThatGoOnTooLong(t *testing.T) {
	for _, tail := range []string{".", ".1", " ", "x", "-", "+", "\x00", "\n", ",", "/", ":", "\xff", "é"} {
		if tail[0] != '.' { // behind a table a dot may stand
			refused(t, "3"+tail, 1)
			refused(t, "250"+tail, 3)
		}
		refused(t, "3.1"+tail, 3)
		refused(t, "3.14"+tail, 4)
		refused(t, "250.250"+tail, 7)
	}
}

func TestParseOfOtherBytes(t *testing.T) {
	for _, s := range []string{".", ".1", " 3", "+3", "-3", "x", "/", ":", "\x00", "\xb3", "٣", "３", "\n3", "#"} {
		refused(t, s, 0)
	}
	for _, s := range []string{"3..", "3..1", "3. 1", "3.+1", "3.-1", "3.x", "3./", "3.:", "3.\x00", "3.\xb1", "3.٣", "3.\n"} {
		refused(t, s, 2)
	}
	for _, s := range []string{"3 .1", "3,1", "3x1", "3·1", "3e1", "3_1", "3/", "3:"} {
		refused(t, s, 1)
	}
}

// texts are all texts of resources, and of each beginning of one whether it is one itself.
func texts() map[string]bool {
	m := map[string]bool{}
	add := func(s string) {
		m[s] = true
		for i := range s {
			m[s[:i]] = m[s[:i]]
		}
	}
	for t := 1; t <= 250; t++ {
		add(strconv.Itoa(t))
		for r := 1; r <= 250; r++ {
			add(strconv.Itoa(t) + "." + strconv.Itoa(r))
		}
	}
	return m
}

// faultAt is the first byte of s that can't go on a text, or its length, if it ends too soon; -1 of a text.
func faultAt(all map[string]bool, s string) int {
	for i := range len(s) {
		if _, goes := all[s[:i+1]]; !goes {
			return i
		}
	}
	if all[s] {
		return -1
	}
	return len(s)
}

// eachString calls f for all strings of at most n bytes of these.
func eachString(bytes string, n int, f func(s string)) {
	level := []string{""}
	for {
		var next []string
		for _, s := range level {
			f(s)
			for i := range bytes {
				next = append(next, s+bytes[i:i+1])
			}
		}
		if n--; n < 0 {
			return
		}
		level = next
	}
}

// heldAgainst checks what is parsed of s against all texts there are.
func heldAgainst(t *testing.T, all map[string]bool, s string) {
	t.Helper()
	if at := faultAt(all, s); at >= 0 {
		refused(t, s, at)
		return
	}
	r, err := res.Parse(s)
	if err != nil || !mayBe(r) {
		t.Errorf("Parse(%q): %v, %v", s, r, err)
		return
	}
	if back := textOf(t, r); back != s { // P2.4
		t.Errorf("Parse(%q): %v, whose text is %q", s, r, back)
	}
}

func TestParseOfAllShortStrings(t *testing.T) {
	all := texts()
	eachString("01259.", 7, func(s string) { heldAgainst(t, all, s) })
	eachString("2506.x", 5, func(s string) { heldAgainst(t, all, s) })
}

func TestParseOfEachByteAtEachPlace(t *testing.T) {
	all := texts()
	for _, s := range []string{"", "3", "25", "250", "3.", "3.1", "3.25", "26.250", "250.250"} {
		for i := 0; i <= len(s); i++ {
			for b := range 256 {
				one := string([]byte{byte(b)})
				heldAgainst(t, all, s[:i]+one+s[i:])
				if i < len(s) {
					heldAgainst(t, all, s[:i]+one+s[i+1:])
				}
			}
		}
	}
}

func TestFaultIsNewEachTime(t *testing.T) {
	for _, q := range []struct {
		s  string
		at int
	}{{"", 0}, {"251", 2}, {"3x", 1}, {"3.0", 2}, {"3.1x", 3}} {
		_, err := res.Parse(q.s)
		var f *api.Fault
		if !errors.As(err, &f) {
			t.Fatalf("Parse(%q): %v", q.s, err)
		}
		f.At, f.Err = 99, api.ErrNone
		refused(t, q.s, q.at)
	}
}

// P2.4

func TestEachTextIsReadBack(t *testing.T) {
	seen := map[string]bool{}
	eachGood(func(r api.Res) {
		s := textOf(t, r)
		if seen[s] {
			t.Errorf("Text(%v): %q, as of another one", r, s)
		}
		seen[s] = true
		parsed(t, s, r)
	})
}

func TestRowAndTableHaveOneShard(t *testing.T) {
	eachGood(func(r api.Res) {
		table, err := res.Table(r)
		if err != nil {
			t.Fatalf("Table(%v): %v", r, err)
		}
		for _, n := range []int{1, 2, 3, 7, 63, 64} {
			a, errA := res.Shard(r, n)
			b, errB := res.Shard(table, n)
			if a != b || errA != nil || errB != nil || a < 1 || a > n {
				t.Errorf("of %d shards %v is of %d (%v), its table of %d (%v)", n, r, a, errA, b, errB)
			}
		}
	})
}

// The document's examples.

func TestExamples(t *testing.T) {
	if s, err := res.Shard(api.Res{Table: 3, Row: 14}, 2); s != 1 || err != nil {
		t.Error("Shard(3.14, 2):", s, err)
	}
	refused(t, "3.", 2)
	refused(t, "251", 2)
}
