package script_test

import (
	"slices"
	"testing"

	"catchbolt/api"
	"catchbolt/check"
	"catchbolt/script"
)

func TestNumbersOfKinds(t *testing.T) {
	kinds := []int{script.Skip, script.Tick, script.Begin, script.Lock, script.Commit, script.Abort, script.Crash, script.Deliver, script.Drop, script.Twice}
	if !slices.Equal(kinds, check.UpTo(0, 9)) {
		t.Error(kinds)
	}
}

// P19.1: Parse.

// parsed checks which entries bytes are.
func parsed(t *testing.T, b []byte, want ...script.Entry) {
	t.Helper()
	if l := script.Parse(b); !slices.Equal(l, want) {
		t.Errorf("Parse(%x): %+v, not %+v", b, l, want)
	}
}

// read checks which entries bytes are, by their hexadecimal digits.
func read(t *testing.T, digits string, want ...script.Entry) {
	t.Helper()
	parsed(t, bytes(t, digits), want...)
}

// likeBook checks that five bytes are what the book says that they are.
func likeBook(t *testing.T, b five) {
	t.Helper()
	parsed(t, b[:], entry(b))
}

// skipped checks that five bytes are a Skip, in which all is 0.
func skipped(t *testing.T, b five) {
	t.Helper()
	parsed(t, b[:], script.Entry{})
}

func TestExamples(t *testing.T) {
	read(t, "02 01 00 00 00", script.Entry{Kind: begin, Client: 1})
	read(t, "02 01 00 00 01", script.Entry{})
	read(t, "03 01 02 00 04 01", script.Entry{Kind: lock, Client: 1, At: api.Res{Table: 2}, Mode: api.X}, script.Entry{})
}

func TestParseOfNothing(t *testing.T) {
	parsed(t, nil)
	parsed(t, []byte{})
	parsed(t, make([]byte, 0, 5))
	parsed(t, []byte{1, 0, 0, 0, 0}[:0])
}

func TestParseOfOneToFourBytes(t *testing.T) {
	for first := range 256 {
		parsed(t, []byte{byte(first)}, script.Entry{})
		for then := range 256 {
			b := [4]byte{byte(first), byte(then), byte(then), byte(first)}
			for size := 2; size <= 4; size++ {
				parsed(t, b[:size], script.Entry{})
			}
			parsed(t, []byte{b[0], b[1], 0}, script.Entry{})
			parsed(t, []byte{b[0], b[1], 0, 0}, script.Entry{})
			check.Stop(t)
		}
	}
	for _, e := range ones() { // in their room stands the whole entry
		for size := 1; size <= 4; size++ {
			parsed(t, fives(e)[:size], script.Entry{})
		}
	}
	eachFive(func(b five) {
		parsed(t, b[:4], script.Entry{})
		parsed(t, b[1:4], script.Entry{})
		check.Stop(t)
	})
}

func TestParseOfOneOfEachKind(t *testing.T) {
	read(t, "00 00 00 00 00", script.Entry{})
	read(t, "01 00 00 00 00", script.Entry{Kind: tick})
	read(t, "02 08 00 00 00", script.Entry{Kind: begin, Client: 8})
	read(t, "03 05 03 0e 02", script.Entry{Kind: lock, Client: 5, At: api.Res{Table: 3, Row: 14}, Mode: api.IX})
	read(t, "04 03 00 00 00", script.Entry{Kind: commit, Client: 3})
	read(t, "05 04 00 00 00", script.Entry{Kind: abort, Client: 4})
	read(t, "06 02 00 00 00", script.Entry{Kind: crash, Client: 2})
	read(t, "07 00 00 00 00", script.Entry{Kind: deliver})
	read(t, "07 01 02 03 00", script.Entry{Kind: deliver, Pick: 66051})
	read(t, "08 ff ff ff 00", script.Entry{Kind: drop, Pick: 16777215})
	read(t, "09 00 00 09 00", script.Entry{Kind: twice, Pick: 9})
}

func TestParseOfSeveral(t *testing.T) {
	parsed(t, fives(ones()...), ones()...)
	back := ones()
	slices.Reverse(back)
	parsed(t, fives(back...), back...)
	read(t, "01 00 00 00 00 02 01 00 00 00 02 09 00 00 00 0a 00 00 00 00 06 01 00 00 00",
		script.Entry{Kind: tick}, script.Entry{Kind: begin, Client: 1}, script.Entry{}, script.Entry{}, script.Entry{Kind: crash, Client: 1})
	for many := range 50 {
		parsed(t, make([]byte, 5*many), make([]script.Entry, many)...)
	}
}

func TestParseOfEntriesAndFewerBytes(t *testing.T) {
	for _, rest := range [][]byte{{0, 0, 0, 0}, {1, 0, 0, 0}, {2, 1, 0, 0}, {3, 1, 2, 0}, {7, 1, 2, 3}, {255, 255, 255, 255}} {
		for size := 1; size <= 4; size++ {
			for _, e := range ones() {
				parsed(t, append(fives(e), rest[:size]...), e, script.Entry{})
			}
			parsed(t, append(fives(ones()...), rest[:size]...), append(ones(), script.Entry{})...)
		}
	}
}

func TestParseOfBytesThatAKindHasNot(t *testing.T) {
	for kind := tick; kind <= twice; kind++ {
		for i, letter := range table[kind] {
			if letter != '.' {
				continue
			}
			b := bytesOf(one(kind))
			parsed(t, b[:], one(kind))
			for n := 1; n <= 255; n++ {
				b[i+1] = byte(n)
				skipped(t, b)
			}
		}
	}
	for _, e := range ones() { // of a skip it has any
		b := bytesOf(e)
		b[0] = 0
		skipped(t, b)
	}
}

func TestParseOfNoKinds(t *testing.T) {
	for kind := 10; kind <= 255; kind++ {
		for _, e := range ones() {
			b := bytesOf(e)
			b[0] = byte(kind)
			skipped(t, b)
		}
		skipped(t, five{byte(kind), 1, 1, 1, 1})
	}
}

func TestParseOfEachClient(t *testing.T) {
	for _, kind := range []int{begin, lock, commit, abort, crash} {
		e := one(kind)
		b := bytesOf(e)
		for n := range 256 {
			b[1], e.Client = byte(n), n
			if n >= 1 && n <= 8 {
				parsed(t, b[:], e)
			} else {
				skipped(t, b)
			}
		}
	}
}

func TestParseOfEachResource(t *testing.T) {
	e := one(lock)
	b := bytesOf(e)
	for table := range 256 {
		for row := range 256 {
			b[2], b[3], e.At = byte(table), byte(row), api.Res{Table: table, Row: row}
			if table >= 1 && table <= 250 && row <= 250 {
				parsed(t, b[:], e)
			} else {
				skipped(t, b)
			}
			check.Stop(t)
		}
	}
}

func TestParseOfEachMode(t *testing.T) {
	for _, at := range []string{"1", "3", "3.14", "250.250"} { // a row's may be any of them here, too
		e := script.Entry{Kind: lock, Client: 1, At: check.At(at), Mode: api.X}
		b := bytesOf(e)
		for n := range 256 {
			b[4], e.Mode = byte(n), api.Mode(n)
			if n >= 1 && n <= 4 {
				parsed(t, b[:], e)
			} else {
				skipped(t, b)
			}
		}
	}
}

func TestParseOfPicks(t *testing.T) {
	for _, kind := range []int{deliver, drop, twice} {
		for n := range 256 {
			one := byte(n)
			parsed(t, []byte{byte(kind), one, 0, 0, 0}, script.Entry{Kind: kind, Pick: 65536 * n})
			parsed(t, []byte{byte(kind), 0, one, 0, 0}, script.Entry{Kind: kind, Pick: 256 * n})
			parsed(t, []byte{byte(kind), 0, 0, one, 0}, script.Entry{Kind: kind, Pick: n})
			parsed(t, []byte{byte(kind), one, one, one, 0}, script.Entry{Kind: kind, Pick: 65793 * n})
		}
		parsed(t, []byte{byte(kind), 255, 255, 255, 0}, script.Entry{Kind: kind, Pick: 16777215})
	}
}

// eachFive calls f for five bytes of all kinds, and of some numbers that are none, each other byte at, around and far beyond the edges of what it may be.
func eachFive(f func(b five)) {
	near := []byte{0, 1, 2, 4, 5, 8, 9, 127, 128, 249, 250, 251, 255}
	for _, kind := range []byte{0, 1, 2, 3, 4, 5, 6, 7, 8, 9, 10, 11, 16, 127, 128, 129, 131, 135, 254, 255} {
		for _, a := range near {
			for _, b := range near {
				for _, c := range near {
					for _, d := range near {
						f(five{kind, a, b, c, d})
					}
				}
			}
		}
	}
}

func TestParseOfAnyFive(t *testing.T) {
	eachFive(func(b five) {
		likeBook(t, b)
		check.Stop(t)
	})
}

// some are so many bytes by chance: mostly those of entries, of which one byte is another one, or none.
func some(by *uint64, many int) []byte {
	var all []byte
	for len(all) < many {
		b := fives(one(check.Next(by) % 10))
		if check.Next(by)%2 == 0 {
			b[check.Next(by)%5] = byte(check.Next(by) % []int{2, 11, 256}[check.Next(by)%3])
		}
		if check.Next(by)%50 == 0 { // those behind it stand elsewhere
			b = b[1:]
		}
		all = append(all, b...)
	}
	return all[:many]
}

// eachSome calls f for bytes by chance, of each size up to 60, and of some greater ones.
func eachSome(f func(b []byte)) {
	by := uint64(19)
	for many := range 61 {
		for range 300 {
			f(some(&by, many))
		}
	}
	for _, many := range []int{999, 1000, 1001, 4096, 65535, 65536, 99999} {
		f(some(&by, many))
	}
}

func TestParseOfSome(t *testing.T) {
	met := map[int]int{}
	eachSome(func(b []byte) {
		var want []script.Entry
		for i := 0; i+5 <= len(b); i += 5 {
			want = append(want, entry(five(b[i:i+5])))
			met[want[len(want)-1].Kind]++
		}
		if len(b)%5 > 0 {
			want = append(want, script.Entry{})
		}
		parsed(t, b, want...)
		check.Stop(t)
	})
	for kind := range 10 {
		if met[kind] < 1000 {
			t.Error("entries:", kind, met[kind])
		}
	}
}

// spoiled is an entry that nobody has.
var spoiled = script.Entry{Kind: -1, Client: -1, At: api.Res{Table: -1, Row: -1}, Mode: -1, Pick: -1}

func TestParseChangesNothingAndKeepsNothing(t *testing.T) {
	room := append(fives(ones()...), 1, 0, 0, 0, 0, 2, 1)
	was := slices.Clone(room)
	for size := range len(room) {
		l, other := script.Parse(room[:size]), script.Parse(room[:size])
		if !slices.Equal(room, was) {
			t.Errorf("Parse changed what it was given: %x", room)
		}
		want := slices.Clone(l)
		check.Spoil(room, 255)
		check.Spoil(other, spoiled)
		_ = append(other, spoiled)
		if !slices.Equal(l, want) {
			t.Errorf("Parse(%x): %+v, then %+v", was[:size], want, l)
		}
		copy(room, was)
		parsed(t, room[:size], want...)
	}
}

// P19.2: Ok.

// ok checks whether an entry is Ok.
func ok(t *testing.T, e script.Entry, want bool) {
	t.Helper()
	if script.Ok(e) != want {
		t.Errorf("Ok(%+v): not %v", e, want)
	}
}

func TestOkOfOneOfEachKind(t *testing.T) {
	for _, e := range ones() {
		ok(t, e, true)
	}
	ok(t, script.Entry{}, true)
	ok(t, script.Entry{Kind: script.Tick}, true)
	ok(t, script.Entry{Kind: script.Begin, Client: 1}, true)
	ok(t, script.Entry{Kind: script.Lock, Client: 8, At: api.Res{Table: 250, Row: 250}, Mode: api.IS}, true)
	ok(t, script.Entry{Kind: script.Commit, Client: 8}, true)
	ok(t, script.Entry{Kind: script.Abort, Client: 2}, true)
	ok(t, script.Entry{Kind: script.Crash, Client: 7}, true)
	ok(t, script.Entry{Kind: script.Deliver, Pick: 16777215}, true)
	ok(t, script.Entry{Kind: script.Drop, Pick: 1}, true)
	ok(t, script.Entry{Kind: script.Twice}, true)
}

func TestOkOfEachField(t *testing.T) {
	for kind := skip; kind <= twice; kind++ {
		for _, f := range fields {
			low, high := edges(kind, f)
			ok(t, with(one(kind), f, low), true)
			ok(t, with(one(kind), f, high), true)
			ok(t, with(one(kind), f, low-1), false)
			ok(t, with(one(kind), f, high+1), false)
			for _, n := range check.FarFrom(low, high) {
				ok(t, with(one(kind), f, n), false)
			}
		}
	}
}

func TestOkOfAllThatAFieldMayBe(t *testing.T) {
	for kind := tick; kind <= twice; kind++ {
		for _, f := range fields {
			for n := -300; n <= 600; n++ {
				low, high := edges(kind, f)
				ok(t, with(one(kind), f, n), n >= low && n <= high)
			}
		}
	}
}

func TestOkOfFieldsThatAreNotThere(t *testing.T) {
	for kind := skip; kind <= twice; kind++ {
		for _, other := range ones()[begin:] { // each has something
			other.Kind = kind
			ok(t, other, other == one(kind))
		}
		for _, f := range fields { // not even at what another kind may have there
			if low, high := edges(kind, f); low == 0 && high == 0 {
				for _, n := range []int{1, f.low + 1, f.high, -1, 256, 65536} {
					ok(t, with(one(kind), f, n), false)
				}
			}
		}
	}
}

func TestOkOfNoKinds(t *testing.T) {
	for _, e := range ones() {
		for _, kind := range append(check.FarFrom(0, 9), check.UpTo(-300, -1)...) {
			e.Kind = kind
			ok(t, e, false)
			ok(t, script.Entry{Kind: kind}, false)
		}
		for kind := 10; kind <= 300; kind++ {
			e.Kind = kind
			ok(t, e, false)
			ok(t, script.Entry{Kind: kind}, false)
		}
	}
}

// eachNear calls f for all entries that are one that is Ok, but for two fields, which are around the edges of what they may be.
func eachNear(f func(e script.Entry)) {
	near := []int{-1 << 32, -1, 0, 1, 2, 4, 5, 8, 9, 250, 251, 255, 256, 257, 65536, 16777214, 16777215, 16777216, 1 << 32, 1<<32 + 1}
	for _, e := range ones() {
		for i, x := range fields {
			for _, y := range fields[:i] {
				for _, a := range near {
					for _, b := range near {
						f(with(with(e, x, a), y, b))
					}
				}
			}
		}
	}
}

func TestOkOfAnyTwoFields(t *testing.T) {
	eachNear(func(e script.Entry) {
		ok(t, e, mayBe(e))
		check.Stop(t)
	})
}

func TestOkOfModesOfRows(t *testing.T) {
	for _, at := range []string{"1", "1.1", "250", "250.250"} {
		for _, m := range check.Modes() {
			ok(t, script.Entry{Kind: lock, Client: 1, At: check.At(at), Mode: m}, true)
		}
		for _, m := range check.WrongModes() {
			ok(t, script.Entry{Kind: lock, Client: 1, At: check.At(at), Mode: m}, false)
		}
	}
}

func TestOkOfResourcesThatMayNotBe(t *testing.T) {
	for _, r := range check.WrongResources() {
		ok(t, script.Entry{Kind: lock, Client: 1, At: r, Mode: api.X}, false)
		for _, e := range ones() {
			if e.Kind != lock && r != (api.Res{}) {
				e.At = r
				ok(t, e, false)
			}
		}
	}
}
