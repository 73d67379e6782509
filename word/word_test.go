package word_test

import (
	"errors"
	"math"
	"slices"
	"testing"

	"catchbolt/api"
	"catchbolt/check"
	"catchbolt/word"
)

// wrongWidths are those that may not be; 256 and more would be near again if a width were cut, or if eight times it wrapped round.
var wrongWidths = []int{
	math.MinInt64, math.MinInt64 + 1, -1 << 61, -1<<61 + 2, math.MinInt32, -256, -255, -8, -4, -3, -2, -1,
	0, 5, 6, 7, 8, 9, 16, 32, 64, 256, 257, 260, 1<<16 + 1, 1<<32 + 1, 1<<61 + 1, 1<<61 + 4, 1<<62 + 2, math.MaxInt64,
}

// most is the greatest number of each width.
var most = [5]int{1: 255, 2: 65535, 3: 16777215, 4: 4294967295}

// numbers are those around the edges of all widths, and far beyond: some would be near again if a number were cut.
var numbers = []int{
	math.MinInt64, math.MinInt64 + 1, math.MinInt64 + 255, -1 << 62, -1 << 40, -1<<32 - 1, -1 << 32, -1<<32 + 1, math.MinInt32, -1 << 24, -65536, -65535, -257, -256, -255, -2, -1,
	0, 1, 2, 3, 127, 128, 129, 253, 254, 255, 256, 257, 258, 511, 512, 32767, 32768,
	65534, 65535, 65536, 65537, 1<<24 - 2, 1<<24 - 1, 1 << 24, 1<<24 + 1,
	1<<31 - 1, 1 << 31, 1<<31 + 1, 1<<32 - 2, 1<<32 - 1, 1 << 32, 1<<32 + 1, 1<<32 + 258, 1<<40 + 7, 1<<56 + 1, 1 << 62, math.MaxInt64 - 1, math.MaxInt64,
}

// put checks that numbers may be put, and answers the bytes.
func put(t *testing.T, b []byte, width int, l ...int) []byte {
	t.Helper()
	all, err := word.Put(b, width, l...)
	if err != nil {
		t.Fatalf("Put(%v, %d, %v): %v", b, width, l, err)
	}
	return all
}

// putAs checks which bytes numbers are put as.
func putAs(t *testing.T, want, b []byte, width int, l ...int) {
	t.Helper()
	if all := put(t, b, width, l...); !slices.Equal(all, want) {
		t.Errorf("Put(%v, %d, %v): %v, not %v", b, width, l, all, want)
	}
}

// notPut checks that numbers can't be put, as the one at that place doesn't fit.
func notPut(t *testing.T, at, width int, l ...int) {
	t.Helper()
	for _, b := range [][]byte{nil, {}, {7}, {1, 2, 3, 4, 5}} {
		if all, err := word.Put(b, width, l...); len(all) != 0 || !check.Fault(err, at, api.ErrRange) {
			t.Errorf("Put(%v, %d, %v): %v, %v, not a fault at %d", b, width, l, all, err, at)
		}
	}
}

// stands checks where a reader is.
func stands(t *testing.T, r *word.Reader, at, left int) {
	t.Helper()
	if r.At() != at || r.Left() != left {
		t.Errorf("the reader is at %d with %d left, not at %d with %d", r.At(), r.Left(), at, left)
	}
}

// takes checks that a number comes next.
func takes(t *testing.T, r *word.Reader, width, want int) {
	t.Helper()
	at, left := r.At(), r.Left()
	if n, err := r.Take(width); n != want || err != nil {
		t.Errorf("Take(%d): %d, %v, not %d", width, n, err, want)
	}
	stands(t, r, at+width, left-width)
}

// takesNone checks that none can be taken, for a reason that isn't told by a place, and that the reader stays.
func takesNone(t *testing.T, r *word.Reader, width int) {
	t.Helper()
	at, left := r.At(), r.Left()
	if n, err := r.Take(width); n != 0 || !check.Plain(err, api.ErrArg) {
		t.Errorf("Take(%d): %d, %v, not ErrArg", width, n, err)
	}
	stands(t, r, at, left)
}

// takesShort checks that fewer bytes are left than a number has, and that the reader stays.
func takesShort(t *testing.T, r *word.Reader, width, size int) {
	t.Helper()
	at, left := r.At(), r.Left()
	if n, err := r.Take(width); n != 0 || !check.Fault(err, size, api.ErrShort) {
		t.Errorf("Take(%d) of %d bytes left: %d, %v, not a fault at %d", width, left, n, err, size)
	}
	stands(t, r, at, left)
}

// bytesOf is a number's bytes by the document's word: by what remains of it, the highest one first.
func bytesOf(n, width int) []byte {
	b := make([]byte, width)
	for i := width - 1; i >= 0; i-- {
		b[i] = byte(n % 256)
		n /= 256
	}
	return b
}

// eachList calls f for all lists of 0 to n of these.
func eachList(of []int, n int, f func(l []int)) {
	level := [][]int{nil}
	for ; n >= 0; n-- {
		var next [][]int
		for _, l := range level {
			f(l)
			for _, one := range of {
				next = append(next, append(slices.Clone(l), one))
			}
		}
		level = next
	}
}

// P3.1

func TestPutOfSome(t *testing.T) {
	putAs(t, []byte{0}, nil, 1, 0)
	putAs(t, []byte{255}, nil, 1, 255)
	putAs(t, []byte{0, 0}, nil, 2, 0)
	putAs(t, []byte{1, 2}, nil, 2, 258)
	putAs(t, []byte{255, 255}, nil, 2, 65535)
	putAs(t, []byte{0, 0, 7}, nil, 3, 7)
	putAs(t, []byte{1, 2, 3}, nil, 3, 1<<16+2<<8+3)
	putAs(t, []byte{255, 255, 255}, nil, 3, 16777215)
	putAs(t, []byte{0, 0, 0, 0}, nil, 4, 0)
	putAs(t, []byte{0, 16, 0, 0}, nil, 4, 1<<20)
	putAs(t, []byte{1, 2, 3, 4}, nil, 4, 1<<24+2<<16+3<<8+4)
	putAs(t, []byte{128, 0, 0, 0}, nil, 4, 1<<31)
	putAs(t, []byte{255, 255, 255, 255}, nil, 4, 4294967295)
}

func TestPutOfOneNumber(t *testing.T) {
	for width := 1; width <= 4; width++ {
		for _, n := range numbers {
			if n < 0 || n > most[width] {
				notPut(t, 0, width, n)
				continue
			}
			putAs(t, bytesOf(n, width), nil, width, n)
		}
	}
}

func TestPutOfAllThatFitOneByteAndTwo(t *testing.T) {
	for n := range 256 {
		putAs(t, []byte{byte(n)}, nil, 1, n)
		for low := range 256 {
			putAs(t, []byte{byte(n), byte(low)}, nil, 2, 256*n+low)
		}
	}
}

func TestPutStandsBehindWhatIsThere(t *testing.T) {
	putAs(t, []byte{9, 1, 2}, []byte{9}, 2, 258)
	putAs(t, []byte{9, 0, 8, 7, 5, 3}, []byte{9, 0, 8}, 1, 7, 5, 3)
	putAs(t, []byte{0, 0, 0, 0, 1}, []byte{0}, 4, 1)
}

func TestPutOfNoNumber(t *testing.T) {
	for width := 1; width <= 4; width++ {
		putAs(t, nil, nil, width)
		putAs(t, nil, []byte{}, width)
		putAs(t, []byte{3, 1}, []byte{3, 1}, width)
		putAs(t, []byte{3, 1}, []byte{3, 1}, width, []int{}...)
	}
}

func TestPutOfSeveral(t *testing.T) {
	for width := 1; width <= 4; width++ {
		top := most[width]
		eachList([]int{0, 1, top / 3, top - 1, top}, 4, func(l []int) {
			want := []byte{5, 6}
			for _, n := range l {
				want = append(want, bytesOf(n, width)...)
			}
			putAs(t, want, []byte{5, 6}, width, l...)
		})
	}
}

func TestPutOfMany(t *testing.T) {
	var l []int
	var want []byte
	for n := range 10000 {
		l = append(l, 9973*n)
		want = append(want, bytesOf(9973*n, 4)...)
	}
	putAs(t, want, nil, 4, l...)
	notPut(t, 10000, 4, append(slices.Clone(l), -1)...)
}

func TestPutTellsTheFirstThatDoesNotFit(t *testing.T) {
	for width := 1; width <= 4; width++ {
		top := most[width]
		eachList([]int{0, top, top + 1, -1, math.MinInt64, math.MaxInt64}, 4, func(l []int) {
			at := slices.IndexFunc(l, func(n int) bool { return n < 0 || n > top })
			if at >= 0 {
				notPut(t, at, width, l...)
			}
		})
	}
	notPut(t, 2, 1, 1, 2, 256, -1)
	notPut(t, 2, 1, 1, 2, -1, 256)
	notPut(t, 3, 2, 1, 2, 256, 65536, 65536)
}

func TestPutOfWidthsThatMayNotBe(t *testing.T) {
	for _, width := range wrongWidths {
		for _, l := range [][]int{nil, {}, {0}, {1, 2}, {-1}, {math.MaxInt64, 0}} { // ErrArg stands ahead of the fault
			for _, b := range [][]byte{nil, {4}} {
				if all, err := word.Put(b, width, l...); len(all) != 0 || !check.Plain(err, api.ErrArg) {
					t.Errorf("Put(%v, %d, %v): %v, %v, not ErrArg", b, width, l, all, err)
				}
			}
		}
	}
}

func TestPutChangesNothingAndKeepsNothing(t *testing.T) {
	room := []byte{1, 2, 3, 4, 5, 6, 7, 8, 9, 10}
	for n := range 4 { // of each length, behind which there is spare room
		for _, l := range [][]int{nil, {77}, {77, 78, 79}, {77, -1}} {
			b, nums := slices.Clone(room), append(slices.Clone(l), 50, 51)
			all, _ := word.Put(b[:n], 2, nums[:len(l)]...)
			want := slices.Clone(all)
			if !slices.Equal(b, room) || !slices.Equal(nums[:len(l)], l) || !slices.Equal(nums[len(l):], []int{50, 51}) {
				t.Fatalf("Put of %d bytes and %v changed what it was given", n, l)
			}
			for i := range b {
				b[i] = 200
			}
			for i := range nums {
				nums[i] = 201
			}
			if !slices.Equal(all, want) {
				t.Fatalf("Put of %d bytes and %v: its answer is what was given", n, l)
			}
			for i := range all {
				all[i] = 202
			}
			_ = append(all, 203, 204)
			if slices.Contains(b, 202) || slices.Contains(b, 203) {
				t.Fatalf("Put of %d bytes and %v: what was given is its answer", n, l)
			}
		}
	}
}

func TestPutsOfOneBeginningAreApart(t *testing.T) {
	b := put(t, make([]byte, 1, 100), 1, 1)
	x, y := put(t, b, 1, 7), put(t, b, 1, 8)
	if !slices.Equal(x, []byte{0, 1, 7}) || !slices.Equal(y, []byte{0, 1, 8}) || !slices.Equal(b, []byte{0, 1}) {
		t.Error("two that were put behind the same bytes:", x, y, b)
	}
}

// P3.2

func TestTakeOfSome(t *testing.T) {
	r := word.New([]byte{1, 2, 3, 4, 5, 6, 7, 8, 9, 10})
	stands(t, r, 0, 10)
	takes(t, r, 1, 1)
	takes(t, r, 2, 2<<8+3)
	takes(t, r, 3, 4<<16+5<<8+6)
	takes(t, r, 4, 7<<24+8<<16+9<<8+10)
	stands(t, r, 10, 0)
}

func TestTakeOfTheEdges(t *testing.T) {
	for width := 1; width <= 4; width++ {
		for _, q := range []struct {
			b    byte
			want int
		}{{0, 0}, {255, most[width]}, {1, most[width] / 255}, {128, most[width] / 255 * 128}} {
			r := word.New(slices.Repeat([]byte{q.b}, width))
			takes(t, r, width, q.want)
			stands(t, r, width, 0)
		}
	}
}

func TestTakeOfWidthsThatMayNotBe(t *testing.T) {
	for size := range 7 { // ErrArg stands ahead of ErrShort
		for at := 0; at <= size; at++ {
			r := word.New(make([]byte, size))
			for range at {
				takes(t, r, 1, 0)
			}
			for _, width := range wrongWidths {
				takesNone(t, r, width)
			}
			stands(t, r, at, size-at)
		}
	}
}

func TestTakeOfBytesThatEndTooSoon(t *testing.T) {
	for size := range 10 {
		for at := 0; at <= size; at++ {
			r := word.New(slices.Repeat([]byte{9}, size))
			for range at {
				takes(t, r, 1, 9)
			}
			for width := size - at + 1; width <= 4; width++ {
				takesShort(t, r, width, size)
				takesShort(t, r, width, size)
			}
			for range size - at { // what was too short for more is there for less
				takes(t, r, 1, 9)
			}
			stands(t, r, size, 0)
		}
	}
}

func TestTakeOfNothing(t *testing.T) {
	for _, b := range [][]byte{nil, {}} {
		r := word.New(b)
		if r == nil {
			t.Fatal("New of nothing: nil")
		}
		stands(t, r, 0, 0)
		for width := 1; width <= 4; width++ {
			takesShort(t, r, width, 0)
		}
		takesNone(t, r, 0)
		takesNone(t, r, 5)
	}
}

func TestReaderHasBytesOfItsOwn(t *testing.T) {
	room := []byte{1, 2, 3, 4, 5, 6}
	for size := range 4 { // of each length, behind which there is spare room
		b := slices.Clone(room)
		r := word.New(b[:size])
		for i := range b {
			b[i] = 200
		}
		_ = append(b[:size], 201)
		for i := range size {
			takes(t, r, 1, i+1)
		}
		takesShort(t, r, 1, size)
	}
	b := []byte{1, 2, 3}
	r := word.New(b)
	takes(t, r, 1, 1)
	b[1], b[2] = 8, 9
	takes(t, r, 2, 2<<8+3)
	if !slices.Equal(b, []byte{1, 8, 9}) {
		t.Error("the reader changed what it was given:", b)
	}
}

func TestReadersOfTheSameBytesAreApart(t *testing.T) {
	b := []byte{1, 2, 3}
	x, y := word.New(b), word.New(b)
	takes(t, x, 2, 258)
	stands(t, y, 0, 3)
	takes(t, y, 1, 1)
	takes(t, x, 1, 3)
	takes(t, y, 2, 2<<8+3)
}

// allAs checks what several are, one behind the other, and that the reader is behind them.
func allAs(t *testing.T, r *word.Reader, widths, want []int) {
	t.Helper()
	at, left := r.At(), r.Left()
	l, err := r.All(widths...)
	if !slices.Equal(l, want) || err != nil {
		t.Errorf("All(%v): %v, %v, not %v", widths, l, err, want)
	}
	for _, width := range widths {
		at, left = at+width, left-width
	}
	stands(t, r, at, left)
}

// allNone checks that several can't be taken, as one has a width that may not be, and that the reader stays.
func allNone(t *testing.T, r *word.Reader, widths ...int) {
	t.Helper()
	at, left := r.At(), r.Left()
	if l, err := r.All(widths...); len(l) != 0 || !check.Plain(err, api.ErrArg) {
		t.Errorf("All(%v): %v, %v, not ErrArg", widths, l, err)
	}
	stands(t, r, at, left)
}

// allShort checks that the bytes end too soon for several, and that the reader stays.
func allShort(t *testing.T, r *word.Reader, size int, widths ...int) {
	t.Helper()
	at, left := r.At(), r.Left()
	if l, err := r.All(widths...); len(l) != 0 || !check.Fault(err, size, api.ErrShort) {
		t.Errorf("All(%v) of %d bytes left: %v, %v, not a fault at %d", widths, left, l, err, size)
	}
	stands(t, r, at, left)
}

func TestAllOfSome(t *testing.T) {
	r := word.New([]byte{1, 2, 3, 4, 5, 6, 7, 8, 9, 10, 11})
	allAs(t, r, []int{1, 2}, []int{1, 2<<8 + 3})
	allAs(t, r, nil, nil)
	allAs(t, r, []int{}, nil)
	allAs(t, r, []int{3}, []int{4<<16 + 5<<8 + 6})
	takes(t, r, 1, 7)
	allAs(t, r, []int{4}, []int{8<<24 + 9<<16 + 10<<8 + 11})
	allAs(t, r, nil, nil)
	allShort(t, r, 11, 1)
}

func TestAllOfBytesThatEndTooSoon(t *testing.T) {
	r := word.New([]byte{1, 2, 3, 4, 5})
	allShort(t, r, 5, 3, 3)
	allShort(t, r, 5, 1, 1, 1, 1, 1, 1)
	allShort(t, r, 5, 4, 2, 1)
	allShort(t, r, 5, 2, 2, 2)
	takes(t, r, 1, 1)
	allShort(t, r, 5, 4, 1)
	allShort(t, r, 5, 1, 4)
	takes(t, r, 2, 2<<8+3)
	allShort(t, r, 5, 3) // in the first number
	allShort(t, r, 5, 3, 1)
	allAs(t, r, []int{1, 1}, []int{4, 5})
	allShort(t, word.New(nil), 0, 1)
}

func TestAllTellsTheFirstError(t *testing.T) {
	r := word.New([]byte{1, 2, 3})
	allNone(t, r, 0)
	allNone(t, r, 5)
	allNone(t, r, 1, 5)
	allNone(t, r, 1, 0, 4)
	allNone(t, r, 3, -1)
	allNone(t, r, 0, 4)
	allNone(t, r, 1, 2, math.MinInt64, 1)
	allShort(t, r, 3, 4, 0)
	allShort(t, r, 3, 1, 3, 5)
	allShort(t, r, 3, 3, 1, -1)
	allAs(t, r, []int{1, 2}, []int{1, 2<<8 + 3})
	allNone(t, r, 0, 1)
	allShort(t, r, 3, 1, 0)
}

func TestAllOfWidthsThatMayNotBe(t *testing.T) {
	for _, width := range wrongWidths {
		for size := range 6 {
			r := word.New(make([]byte, size))
			allNone(t, r, width)
			allNone(t, r, width, 1)
			if size > 0 {
				allNone(t, r, 1, width)
			} else {
				allShort(t, r, size, 1, width)
			}
		}
	}
}

func TestAllIsWhatTakeTells(t *testing.T) {
	b := []byte{7, 0, 255, 128, 1, 2}
	for at := 0; at <= len(b); at++ {
		eachList([]int{0, 1, 2, 3, 4, 5}, 4, func(widths []int) {
			one, several := word.New(b), word.New(b)
			for i := range at {
				takes(t, one, 1, int(b[i]))
				takes(t, several, 1, int(b[i]))
			}
			var want []int
			for _, width := range widths {
				n, err := one.Take(width)
				switch {
				case errors.Is(err, api.ErrArg):
					allNone(t, several, widths...)
					return
				case errors.Is(err, api.ErrShort):
					allShort(t, several, len(b), widths...)
					return
				}
				want = append(want, n)
			}
			allAs(t, several, widths, want)
			stands(t, several, one.At(), one.Left())
		})
	}
}

func TestAllChangesNothingAndAnswersNewMemory(t *testing.T) {
	widths := []int{1, 2, 1, 4, 4}
	r := word.New([]byte{1, 2, 3, 4, 5, 6, 7, 8})
	first, err := r.All(widths[:2]...)
	if err != nil {
		t.Fatal(err)
	}
	for i := range first {
		first[i] = 99
	}
	_ = append(first, 98, 97)
	second, err := r.All(widths[:1]...)
	if err != nil || !slices.Equal(second, []int{4}) || !slices.Equal(widths, []int{1, 2, 1, 4, 4}) {
		t.Error("All:", second, err, widths)
	}
	second[0] = 96
	if !slices.Equal(first, []int{99, 99}) {
		t.Error("two answers of All are one:", first)
	}
}

func TestNilReader(t *testing.T) {
	var r *word.Reader
	stands(t, r, 0, 0)
	for width := -1; width <= 6; width++ {
		takesNone(t, r, width)
		allNone(t, r, width)
		allNone(t, r, width, 1)
	}
	for _, width := range wrongWidths {
		takesNone(t, r, width)
		allNone(t, r, 1, width)
	}
	allNone(t, r)
	stands(t, r, 0, 0)
}

func TestFaultIsNewEachTime(t *testing.T) {
	spoil := func(err error) {
		var f *api.Fault
		if !errors.As(err, &f) {
			t.Fatal("no fault:", err)
		}
		f.At, f.Err = 99, api.ErrNone
	}
	_, err := word.Put(nil, 1, 3, 256)
	spoil(err)
	notPut(t, 1, 1, 3, 256)
	r := word.New([]byte{1})
	_, err = r.Take(2)
	spoil(err)
	takesShort(t, r, 2, 1)
	_, err = r.All(1, 1)
	spoil(err)
	allShort(t, r, 1, 1, 1)
}

// P3.3

func TestWhatWasPutIsTaken(t *testing.T) {
	for width := 1; width <= 4; width++ {
		var l []int
		for _, n := range numbers {
			if n >= 0 && n <= most[width] {
				l = append(l, n)
			}
		}
		r := word.New(put(t, []byte{4, 5}, width, l...))
		allAs(t, r, []int{1, 1}, []int{4, 5})
		allAs(t, r, slices.Repeat([]int{width}, len(l)), l)
		stands(t, r, 2+width*len(l), 0)

		r = word.New(put(t, nil, width, l...))
		for _, n := range l {
			takes(t, r, width, n)
		}
		takesShort(t, r, 1, width*len(l))
	}
}

func TestWhatWasPutInTurnsIsTaken(t *testing.T) {
	eachList([]int{1, 2, 3, 4}, 5, func(widths []int) {
		var b []byte
		var l []int
		for i, width := range widths {
			n := most[width] / (i + 2) * (i + 1)
			b = put(t, b, width, n)
			l = append(l, n)
		}
		r := word.New(b)
		allAs(t, r, widths, l)
		stands(t, r, len(b), 0)
	})
}

func TestWhatIsTakenIsPut(t *testing.T) {
	some := []int{0, 1, 127, 128, 254, 255}
	eachList(some, 4, func(l []int) {
		b := make([]byte, len(l))
		for i, n := range l {
			b[i] = byte(n)
		}
		if width := len(b); width > 0 {
			n, err := word.New(b).Take(width)
			if err != nil {
				t.Fatalf("Take(%d) of %v: %v", width, b, err)
			}
			putAs(t, b, nil, width, n)
		}
		ones, err := word.New(b).All(slices.Repeat([]int{1}, len(b))...)
		if err != nil {
			t.Fatalf("All of %v: %v", b, err)
		}
		putAs(t, b, nil, 1, ones...)
	})
}

func TestEachNumberOfOneByteAndTwoIsTakenAsItWasPut(t *testing.T) {
	for n := range 65536 {
		if n < 256 {
			takes(t, word.New(put(t, nil, 1, n)), 1, n)
		}
		takes(t, word.New(put(t, nil, 2, n)), 2, n)
	}
}

// The document's examples.

func TestExamples(t *testing.T) {
	putAs(t, []byte{0, 1, 1, 2}, nil, 2, 1, 258)
	takesShort(t, word.New([]byte{1}), 2, 1)
}
