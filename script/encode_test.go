package script_test

import (
	"math"
	"slices"
	"testing"

	"catchbolt/api"
	"catchbolt/check"
	"catchbolt/script"
)

// P19.2: Encode.

// encode answers the bytes of entries that are Ok.
func encode(t *testing.T, l ...script.Entry) []byte {
	t.Helper()
	b, err := script.Encode(l...)
	if err != nil || len(b) != 5*len(l) {
		t.Fatalf("Encode(%+v): %x, %v", l, b, err)
	}
	return b
}

// written checks which bytes entries have, by their hexadecimal digits.
func written(t *testing.T, digits string, l ...script.Entry) {
	t.Helper()
	if b := encode(t, l...); !slices.Equal(b, bytes(t, digits)) {
		t.Errorf("Encode(%+v): %x, not %s", l, b, digits)
	}
}

// refused checks that entries have no bytes, as the first one that isn't Ok is at that place.
func refused(t *testing.T, at int, l ...script.Entry) {
	t.Helper()
	if b, err := script.Encode(l...); len(b) != 0 || !check.Fault(err, at, api.ErrForm) {
		t.Errorf("Encode(%+v): %x, %v, not a fault at %d", l, b, err, at)
	}
}

func TestEncodeOfNone(t *testing.T) {
	written(t, "")
	written(t, "", []script.Entry{}...)
	written(t, "", ones()[:0]...)
}

func TestEncodeOfOneOfEachKind(t *testing.T) {
	written(t, "00 00 00 00 00", script.Entry{})
	written(t, "01 00 00 00 00", script.Entry{Kind: tick})
	written(t, "02 01 00 00 00", script.Entry{Kind: begin, Client: 1})
	written(t, "03 08 fa 00 04", script.Entry{Kind: lock, Client: 8, At: api.Res{Table: 250}, Mode: api.X})
	written(t, "03 05 03 0e 01", script.Entry{Kind: lock, Client: 5, At: api.Res{Table: 3, Row: 14}, Mode: api.IS})
	written(t, "04 03 00 00 00", script.Entry{Kind: commit, Client: 3})
	written(t, "05 04 00 00 00", script.Entry{Kind: abort, Client: 4})
	written(t, "06 02 00 00 00", script.Entry{Kind: crash, Client: 2})
	written(t, "07 01 02 03 00", script.Entry{Kind: deliver, Pick: 66051})
	written(t, "07 00 00 00 00", script.Entry{Kind: deliver})
	written(t, "08 ff ff ff 00", script.Entry{Kind: drop, Pick: 16777215})
	written(t, "09 80 00 00 00", script.Entry{Kind: twice, Pick: 8388608})
}

func TestEncodeOfSeveral(t *testing.T) {
	written(t, "02 01 00 00 00 03 01 02 00 04 00 00 00 00 00 07 00 01 00 00 01 00 00 00 00",
		script.Entry{Kind: begin, Client: 1}, script.Entry{Kind: lock, Client: 1, At: api.Res{Table: 2}, Mode: api.X}, script.Entry{}, script.Entry{Kind: deliver, Pick: 256}, script.Entry{Kind: tick})
	for _, first := range ones() {
		for _, then := range ones() {
			for _, l := range [][]script.Entry{{first, then}, {first, then, first}, {then, then, first, first}} {
				if b := encode(t, l...); !slices.Equal(b, fives(l...)) {
					t.Errorf("Encode(%+v): %x", l, b)
				}
			}
		}
	}
	for many := range 50 {
		if b := encode(t, make([]script.Entry, many)...); !slices.Equal(b, make([]byte, 5*many)) {
			t.Errorf("Encode of %d: %x", many, b)
		}
	}
}

// wrongs are entries that aren't Ok, each by one thing: by kinds that are none, and of each kind by each field.
func wrongs() []script.Entry {
	var l []script.Entry
	for _, kind := range []int{-1, 10, 11, -256, -255, 256, 257, 1 << 32, 1<<32 + 3, math.MinInt, math.MaxInt} {
		l = append(l, script.Entry{Kind: kind}, with(script.Entry{Kind: kind}, fields[0], 1))
	}
	for kind, e := range ones() {
		for _, f := range fields {
			low, high := edges(kind, f)
			for _, n := range []int{low - 1, high + 1, high + 256, low - 256, high + 1<<24, high + 1<<32, math.MinInt, math.MaxInt} {
				if n < low || n > high {
					l = append(l, with(e, f, n))
				}
			}
		}
	}
	return l
}

func TestEncodeOfOneThatIsNotOk(t *testing.T) {
	for _, e := range wrongs() {
		refused(t, 0, e)
		ok(t, e, false)
	}
}

func TestEncodeOfOneThatIsNotOkAmongOthers(t *testing.T) {
	for _, e := range wrongs() {
		for place := range 11 {
			refused(t, place, slices.Insert(ones(), place, e)...)
		}
	}
}

func TestEncodeOfTwoThatAreNotOk(t *testing.T) {
	all := wrongs()
	for i, e := range all {
		for _, other := range []script.Entry{e, all[0], all[(i+1)%len(all)], all[(i+40)%len(all)]} {
			refused(t, 0, e, other)
			refused(t, 1, script.Entry{}, e, other)
			for place := range 11 {
				l := slices.Insert(ones(), place, e)
				refused(t, place, append(l, other)...)
				refused(t, 0, append([]script.Entry{other}, l...)...)
			}
		}
	}
	refused(t, 0, all...)
	refused(t, 10, append(ones(), all...)...)
}

func TestEncodeOfOneThatIsNotOkBehindMany(t *testing.T) {
	for _, many := range []int{255, 256, 257, 65535, 65536} {
		refused(t, many, append(make([]script.Entry, many), script.Entry{Kind: 10})...)
	}
}

func TestEncodeChangesNothingAndKeepsNothing(t *testing.T) {
	for size := range 11 {
		room := append(ones(), script.Entry{Kind: tick}, spoiled)
		was := slices.Clone(room)
		b := encode(t, room[:size]...)
		other := encode(t, room[:size]...)
		script.Encode(room...)
		if !slices.Equal(room, was) {
			t.Errorf("Encode changed what it was given: %+v", room)
		}
		check.Spoil(room, spoiled)
		check.Spoil(other, 255)
		_ = append(other, 255)
		if want := fives(was[:size]...); !slices.Equal(b, want) || !slices.Equal(encode(t, was[:size]...), want) {
			t.Errorf("two answers of Encode(%+v) are one", was[:size])
		}
	}
}

// P19.3

// back checks that entries which are Ok are what their bytes are, and that these are what the book says.
func back(t *testing.T, l []script.Entry) {
	t.Helper()
	b := encode(t, l...)
	if !slices.Equal(b, fives(l...)) {
		t.Errorf("the bytes of %d entries from %+v on aren't the book's", len(l), l[0])
	}
	if !slices.Equal(script.Parse(b), l) {
		t.Errorf("%d entries from %+v on came back as others", len(l), l[0])
	}
}

func TestWhatWasEncodedIsParsed(t *testing.T) {
	back(t, ones())
	for client := 1; client <= 8; client++ {
		var l []script.Entry
		for _, kind := range []int{begin, commit, abort, crash} {
			l = append(l, script.Entry{Kind: kind, Client: client})
		}
		for table := 1; table <= 250; table += 1 + table%3*client {
			for row := range 251 {
				l = append(l, script.Entry{Kind: lock, Client: client, At: api.Res{Table: table, Row: row}, Mode: api.Mode(1 + (table+row)%4)})
			}
		}
		back(t, l)
	}
	for kind := deliver; kind <= twice; kind++ {
		l := []script.Entry{{Kind: kind, Pick: 16777215}}
		for pick := 0; pick <= 16777215; pick += 97 * kind {
			l = append(l, script.Entry{Kind: kind, Pick: pick})
		}
		back(t, l)
	}
}

func TestWhatWasEncodedOfAnyTwoFieldsIsParsed(t *testing.T) {
	var l []script.Entry
	eachNear(func(e script.Entry) {
		if mayBe(e) {
			l = append(l, e)
		} else {
			refused(t, 0, e)
		}
		check.Stop(t)
	})
	if len(l) < 500 {
		t.Error("entries:", len(l))
	}
	back(t, l)
}

// again checks that what bytes are can be encoded, and is parsed as it was.
func again(t *testing.T, b []byte) {
	t.Helper()
	l := script.Parse(b)
	if len(l) != (len(b)+4)/5 {
		t.Errorf("Parse(%x): %d entries", b, len(l))
	}
	for _, e := range l {
		ok(t, e, true)
	}
	parsed(t, encode(t, l...), l...)
}

func TestWhatWasParsedIsEncoded(t *testing.T) {
	for first := range 256 {
		for then := range 256 {
			again(t, []byte{byte(first), byte(then), 0, 0, 0})
			again(t, []byte{byte(first), byte(then), byte(then), byte(then), 0})
			again(t, []byte{byte(first), byte(then), byte(first), byte(then), 4, 1, byte(then)})
		}
	}
	eachFive(func(b five) {
		again(t, b[:])
		check.Stop(t)
	})
	eachSome(func(b []byte) {
		again(t, b)
		check.Stop(t)
	})
}
