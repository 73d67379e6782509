package script_test

import (
	"encoding/hex"
	"strings"
	"testing"

	"catchbolt/api"
	"catchbolt/check"
	"catchbolt/script"
)

// The kinds, by the document's numbers.
const (
	skip = iota
	tick
	begin
	lock
	commit
	abort
	crash
	deliver
	drop
	twice
)

// table is the document's: of the kinds 1 to 9 what a, b, c and d are, each by its field's letter; a dot is a byte that must be 0.
var table = [...]string{tick: "....", begin: "C...", lock: "CTRM", commit: "C...", abort: "C...", crash: "C...", deliver: "PPP.", drop: "PPP.", twice: "PPP."}

// field is a number of an entry: its letter, and from where to where it may be in a kind that has it.
type field struct {
	letter    string
	low, high int
	of        func(e *script.Entry) *int
}

// fields are all numbers of an entry, but for its kind.
var fields = []field{
	{"C", 1, 8, func(e *script.Entry) *int { return &e.Client }},
	{"T", 1, 250, func(e *script.Entry) *int { return &e.At.Table }},
	{"R", 0, 250, func(e *script.Entry) *int { return &e.At.Row }},
	{"M", 1, 4, func(e *script.Entry) *int { return (*int)(&e.Mode) }},
	{"P", 0, 16777215, func(e *script.Entry) *int { return &e.Pick }},
}

// with is an entry with another number in a field.
func with(e script.Entry, f field, n int) script.Entry {
	*f.of(&e) = n
	return e
}

// layout is what a kind's bytes are; of skip and of what is no kind there are none.
func layout(kind int) string {
	if kind < tick || kind > twice {
		return ""
	}
	return table[kind]
}

// edges are from where to where a field of a kind may be.
func edges(kind int, f field) (int, int) {
	if strings.Contains(layout(kind), f.letter) {
		return f.low, f.high
	}
	return 0, 0
}

// mayBe says by the document's words whether an entry is Ok.
func mayBe(e script.Entry) bool {
	for _, f := range fields {
		if low, high := edges(e.Kind, f); *f.of(&e) < low || *f.of(&e) > high {
			return false
		}
	}
	return e.Kind >= skip && e.Kind <= twice
}

// five are an entry's bytes.
type five [5]byte

// entry is by the document's words what five bytes are.
func entry(b five) script.Entry {
	e := script.Entry{Kind: int(b[0])}
	for i, letter := range layout(e.Kind) {
		for _, f := range fields {
			if f.letter == string(letter) {
				*f.of(&e) = 256**f.of(&e) + int(b[i+1])
			}
		}
		if letter == '.' && b[i+1] != 0 {
			return script.Entry{}
		}
	}
	if layout(e.Kind) == "" || !mayBe(e) {
		return script.Entry{}
	}
	return e
}

// bytesOf are by the document's words the bytes of an entry that is Ok.
func bytesOf(e script.Entry) five {
	b := five{byte(e.Kind)}
	place := map[string]int{}
	for i, letter := range layout(e.Kind) { // the last one of a letter is the lowest one of its number
		place[string(letter)] = i + 1
	}
	for _, f := range fields {
		for n, i := *f.of(&e), place[f.letter]; n > 0; n, i = n/256, i-1 {
			b[i] = byte(n % 256)
		}
	}
	return b
}

// one is an entry of a kind that is Ok, of which each number that it has is another one, and none is 0.
func one(kind int) script.Entry {
	all := script.Entry{Client: 5, At: check.At("3.14"), Mode: api.X, Pick: 0x10203}
	e := script.Entry{Kind: kind}
	for _, f := range fields {
		if _, high := edges(kind, f); high > 0 {
			*f.of(&e) = *f.of(&all)
		}
	}
	return e
}

// ones are such entries, of each kind one, skip too.
func ones() []script.Entry {
	var l []script.Entry
	for kind := skip; kind <= twice; kind++ {
		l = append(l, one(kind))
	}
	return l
}

// bytes are those of hexadecimal digits.
func bytes(t *testing.T, digits string) []byte {
	t.Helper()
	b, err := hex.DecodeString(strings.ReplaceAll(digits, " ", ""))
	if err != nil {
		t.Fatal(err)
	}
	return b
}

// fives are the five bytes that each entry has, one behind the other.
func fives(l ...script.Entry) []byte {
	var all []byte
	for _, e := range l {
		b := bytesOf(e)
		all = append(all, b[:]...)
	}
	return all
}

// The book itself, by the document's examples.
func TestBook(t *testing.T) {
	for digits, want := range map[string]script.Entry{
		"0201000000": {Kind: begin, Client: 1},
		"0201000001": {},
		"0301020004": {Kind: lock, Client: 1, At: check.At("2"), Mode: api.X},
		"0901020300": {Kind: twice, Pick: 0x10203},
	} {
		e := entry(five(bytes(t, digits)))
		if e != want || !mayBe(e) {
			t.Errorf("%s: %+v", digits, e)
		}
		if b := hex.EncodeToString(fives(e)); e != (script.Entry{}) && b != digits {
			t.Errorf("%+v: %s", e, b)
		}
	}
	for kind, e := range ones() {
		if e.Kind != kind || !mayBe(e) || entry(bytesOf(e)) != e {
			t.Errorf("%d: %+v, %x", kind, e, fives(e))
		}
	}
}
