package memo_test

import (
	"fmt"
	"slices"
	"strings"
	"testing"

	"catchbolt/api"
	"catchbolt/check"
	"catchbolt/memo"
)

// The numbers of the tests.
var (
	numbers      = check.Numbers()
	wrongNumbers = check.WrongNumbers()
)

// mixed are transactions that don't rise; as texts they would stand in another order, too.
var mixed = []int{100, 9, 1048576, 10, 1, 2, 65536, 99, 65537, 1000, 256}

// granted is a request's answer, by which it has a lock.
func granted(tx, seq int) api.Msg {
	return api.Msg{Kind: api.KGranted, From: 2, Tx: tx, Seq: seq, At: api.Res{Table: 3, Row: 14}, Mode: api.X}
}

// refused is a request's answer, by which it has none.
func refused(tx, seq, code int) api.Msg {
	return api.Msg{Kind: api.KRefused, From: 2, Tx: tx, Seq: seq, Code: code}
}

// answers are those that a request may have, of both kinds: of each mode, of places and shards at their edges, and of each code.
func answers(tx, seq int) []api.Msg {
	var all []api.Msg
	for _, m := range check.Modes() {
		for _, at := range []api.Res{{Table: 1}, {Table: 250}, {Table: 3, Row: 14}, {Table: 250, Row: 250}} {
			for _, shard := range []int{1, 2, 64} {
				all = append(all, api.Msg{Kind: api.KGranted, From: shard, Tx: tx, Seq: seq, At: at, Mode: m})
			}
		}
	}
	for code := 1; code <= 15; code++ {
		m := refused(tx, seq, code)
		m.From = []int{1, 2, 64}[code%3]
		all = append(all, m)
	}
	return all
}

// whole is all that a book tells, as a text. To open a last request once more tells its answer, and changes nothing.
func whole(b *memo.Book) string {
	var all []string
	for _, tx := range b.All() {
		seq, none := b.Last(tx)
		m, err := b.Open(tx, seq)
		all = append(all, fmt.Sprint(check.Step(tx, seq), none, err, m))
	}
	return strings.Join(all, "; ")
}

// opens checks that a request is new.
func opens(t *testing.T, b *memo.Book, tx, seq int) {
	t.Helper()
	if m, err := b.Open(tx, seq); m != (api.Msg{}) || err != nil {
		t.Errorf("Open(%d, %d) = %v, %v", tx, seq, m, err)
	}
	isLast(t, b, tx, seq)
}

// opensNot checks that a request isn't opened, with that answer and that error, and that nothing changes by it.
func opensNot(t *testing.T, b *memo.Book, tx, seq int, answer api.Msg, want api.Errno) {
	t.Helper()
	before := whole(b)
	if m, err := b.Open(tx, seq); m != answer || !check.Plain(err, want) {
		t.Errorf("Open(%d, %d) = %v, %v, want %v, %v, of %s", tx, seq, m, err, answer, want, before)
	}
	stays(t, b, before)
}

// fails, waits and isDone are for requests that have no answer to tell, for one that has none yet, and for one that has that one.
func fails(t *testing.T, b *memo.Book, tx, seq int, want api.Errno) {
	t.Helper()
	opensNot(t, b, tx, seq, api.Msg{}, want)
}

func waits(t *testing.T, b *memo.Book, tx, seq int) {
	t.Helper()
	fails(t, b, tx, seq, api.ErrBusy)
}

func isDone(t *testing.T, b *memo.Book, answer api.Msg) {
	t.Helper()
	opensNot(t, b, answer.Tx, answer.Seq, answer, api.ErrDone)
}

// closes checks that a message is an answer.
func closes(t *testing.T, b *memo.Book, m api.Msg) {
	t.Helper()
	if err := b.Close(m); err != nil {
		t.Errorf("Close(%+v) = %v", m, err)
	}
	isDone(t, b, m)
}

// closesNot checks that a message is no answer, with that error, and that nothing changes by it.
func closesNot(t *testing.T, b *memo.Book, m api.Msg, want api.Errno) {
	t.Helper()
	before := whole(b)
	if err := b.Close(m); !check.Plain(err, want) {
		t.Errorf("Close(%+v) = %v, want %v, of %s", m, err, want, before)
	}
	stays(t, b, before)
}

// forgets checks that a transaction has a request, and has none then.
func forgets(t *testing.T, b *memo.Book, tx int) {
	t.Helper()
	if err := b.Forget(tx); err != nil {
		t.Errorf("Forget(%d) = %v", tx, err)
	}
	hasNone(t, b, tx)
}

// hasNone checks that a transaction has no request, and that it changes nothing to forget it.
func hasNone(t *testing.T, b *memo.Book, tx int) {
	t.Helper()
	before := whole(b)
	if seq, err := b.Last(tx); seq != 0 || !check.Plain(err, api.ErrNone) {
		t.Errorf("Last(%d) = %d, %v, of %s", tx, seq, err, before)
	}
	if err := b.Forget(tx); !check.Plain(err, api.ErrNone) {
		t.Errorf("Forget(%d) = %v, of %s", tx, err, before)
	}
	if slices.Contains(b.All(), tx) {
		t.Errorf("All() has %d, of %s", tx, before)
	}
	stays(t, b, before)
}

// isLast checks the number of a transaction's last request.
func isLast(t *testing.T, b *memo.Book, tx, want int) {
	t.Helper()
	if seq, err := b.Last(tx); seq != want || err != nil {
		t.Errorf("Last(%d) = %d, %v, want %d", tx, seq, err, want)
	}
}

// all checks who has a request.
func all(t *testing.T, b *memo.Book, want ...int) {
	t.Helper()
	if got := b.All(); !slices.Equal(got, want) {
		t.Errorf("All() = %v, want %v", got, want)
	}
}

// stays checks that a book tells what it told.
func stays(t *testing.T, b *memo.Book, before string) {
	t.Helper()
	if now := whole(b); now != before {
		t.Errorf("the book tells\n%s, want\n%s", now, before)
	}
}

// three is a book of three transactions: 5 by 50 has no answer, 7 by 70 a grant, 9 by 90 a refusal.
func three(t *testing.T) *memo.Book {
	t.Helper()
	b := memo.New()
	for _, tx := range []int{9, 5, 7} {
		opens(t, b, tx, 10*tx)
	}
	closes(t, b, granted(7, 70))
	closes(t, b, refused(9, 90, 9))
	return b
}

// rising are numbers in their order.
func rising(of []int) []int {
	l := slices.Clone(of)
	slices.Sort(l)
	return l
}

// P13.1

func TestNewIsOfNobody(t *testing.T) {
	b := memo.New()
	all(t, b)
	for _, tx := range slices.Concat(numbers, wrongNumbers) {
		hasNone(t, b, tx)
	}
	for _, tx := range numbers {
		closesNot(t, b, granted(tx, 1), api.ErrNone)
		closesNot(t, b, refused(tx, 1, 9), api.ErrNone)
	}
	all(t, b)
}

func TestOpenAtEachEdge(t *testing.T) {
	for _, tx := range numbers {
		for _, seq := range numbers {
			b := memo.New()
			opens(t, b, tx, seq)
			all(t, b, tx)
			waits(t, b, tx, seq)
			closes(t, b, granted(tx, seq))
			all(t, b, tx)
			isLast(t, b, tx, seq)
		}
	}
}

func TestOpenOfOneThatMayNotBe(t *testing.T) {
	empty, b := memo.New(), three(t)
	for _, tx := range wrongNumbers {
		for _, seq := range slices.Concat(numbers, wrongNumbers) {
			fails(t, empty, tx, seq, api.ErrArg)
			fails(t, b, tx, seq, api.ErrArg)
		}
		hasNone(t, b, tx)
	}
	all(t, empty)
	all(t, b, 5, 7, 9)
}

func TestOpenOfANumberThatMayNotBe(t *testing.T) {
	empty, b := memo.New(), three(t)
	for _, seq := range wrongNumbers {
		for _, tx := range numbers {
			fails(t, empty, tx, seq, api.ErrArg)
			fails(t, b, tx, seq, api.ErrArg)
		}
		for _, tx := range []int{5, 7, 9} { // ahead of ErrStale, if it is less than the last one
			fails(t, b, tx, seq, api.ErrArg)
			isLast(t, b, tx, 10*tx)
		}
	}
	all(t, empty)
	all(t, b, 5, 7, 9)
}

func TestOpenBehindEachNumber(t *testing.T) {
	for _, first := range numbers {
		for _, then := range numbers {
			for _, answer := range []api.Msg{{}, granted(7, first), refused(7, first, 9)} {
				b := memo.New()
				opens(t, b, 7, first)
				if answer != (api.Msg{}) {
					closes(t, b, answer)
				}
				opensBehind(t, b, first, then, answer)
			}
		}
	}
}

// opensBehind checks what 7's request answers behind another one of it, that has that answer, or none.
func opensBehind(t *testing.T, b *memo.Book, first, then int, answer api.Msg) {
	t.Helper()
	switch {
	case then > first:
		opens(t, b, 7, then)
		waits(t, b, 7, then)
		fails(t, b, 7, first, api.ErrStale)
		return
	case then < first:
		fails(t, b, 7, then, api.ErrStale)
	case answer == api.Msg{}:
		waits(t, b, 7, then)
	default:
		isDone(t, b, answer)
	}
	isLast(t, b, 7, first)
}

func TestOpenOfLesserNumbersOfEach(t *testing.T) {
	b := three(t)
	for _, tx := range []int{5, 7, 9} {
		for seq := 1; seq < 10*tx; seq++ {
			fails(t, b, tx, seq, api.ErrStale)
		}
	}
	waits(t, b, 5, 50)
	isDone(t, b, granted(7, 70))
	isDone(t, b, refused(9, 90, 9))
}

func TestOpenTellsTheAnswerThatWasClosed(t *testing.T) {
	for _, tx := range numbers {
		for _, m := range answers(tx, 9) {
			b := memo.New()
			opens(t, b, tx, 9)
			closes(t, b, m)
			isDone(t, b, m)
			isDone(t, b, m)
		}
	}
}

func TestALaterRequestHasNoAnswer(t *testing.T) {
	for _, m := range answers(7, 9) {
		b := memo.New()
		opens(t, b, 7, 9)
		closes(t, b, m)
		opens(t, b, 7, 10)
		waits(t, b, 7, 10)
		fails(t, b, 7, 9, api.ErrStale)
		closesNot(t, b, m, api.ErrStale)
		m.Seq = 10
		closes(t, b, m)
	}
}

func TestEachHasItsOwn(t *testing.T) {
	b := memo.New()
	for i, tx := range mixed {
		opens(t, b, tx, numbers[i])
	}
	for i, tx := range mixed {
		waits(t, b, tx, numbers[i])
		if i%3 == 0 {
			closes(t, b, granted(tx, numbers[i]))
		}
		if i%3 == 1 {
			closes(t, b, refused(tx, numbers[i], 1+i))
		}
	}
	for i, tx := range mixed {
		switch i % 3 {
		case 0:
			isDone(t, b, granted(tx, numbers[i]))
		case 1:
			isDone(t, b, refused(tx, numbers[i], 1+i))
		default:
			waits(t, b, tx, numbers[i])
		}
		isLast(t, b, tx, numbers[i])
	}
	for _, tx := range []int{3, 8, 11, 98, 101, 255, 257, 1048575} {
		hasNone(t, b, tx)
	}
}

// P13.2

func TestCloseOfEachAnswer(t *testing.T) {
	for _, seq := range numbers {
		for _, m := range answers(7, seq) {
			b := three(t)
			opens(t, b, 8, seq)
			m.Tx = 8
			closes(t, b, m)
			isLast(t, b, 8, seq)
			all(t, b, 5, 7, 8, 9)
			waits(t, b, 5, 50)
			isDone(t, b, granted(7, 70))
			isDone(t, b, refused(9, 90, 9))
		}
	}
}

// open is a book in which the request of a message has no answer, if it has one that may be, and so have those that other messages may name.
func open(t *testing.T, m api.Msg) *memo.Book {
	t.Helper()
	b := memo.New()
	opens(t, b, 7, 9)
	opens(t, b, 1048576, 1048576)
	b.Open(m.Tx, m.Seq)
	return b
}

func TestCloseOfOtherKinds(t *testing.T) {
	for _, m := range check.Messages() {
		if m.Kind == api.KGranted || m.Kind == api.KRefused {
			closes(t, open(t, m), m)
			continue
		}
		closesNot(t, open(t, m), m, api.ErrForm)
		closesNot(t, memo.New(), m, api.ErrForm)
	}
}

// spoiled are answers that may not be, of 7 by 9, each by one thing alone.
func spoiled() []api.Msg {
	var all []api.Msg
	for _, m := range []api.Msg{granted(7, 9), refused(7, 9, 9)} {
		for _, spoil := range []func(m *api.Msg){
			func(m *api.Msg) { m.Kind += 256 },
			func(m *api.Msg) { m.Kind = -m.Kind },
			func(m *api.Msg) { m.Kind = 5 - m.Kind }, // the other kind of both
			func(m *api.Msg) { m.Kind = api.KLock },
			func(m *api.Msg) { m.From = 0 },
			func(m *api.Msg) { m.From = -2 },
			func(m *api.Msg) { m.From = 65 },
			func(m *api.Msg) { m.To = 1 },
			func(m *api.Msg) { m.From, m.To = m.To, m.From },
			func(m *api.Msg) { m.At.Table = 251 },
			func(m *api.Msg) { m.At.Row = 251 },
			func(m *api.Msg) { m.At.Row = -1 },
			func(m *api.Msg) { m.Mode = 5 },
			func(m *api.Msg) { m.Mode = -1 },
			func(m *api.Msg) { m.Code = 16 },
			func(m *api.Msg) { m.Code = -1 },
			func(m *api.Msg) { m.Code = 9 - m.Code },
			func(m *api.Msg) { m.Next = 1 },
			func(m *api.Msg) { m.NextSeq = 1 },
			func(m *api.Msg) { m.N = 1 },
			func(m *api.Msg) { m.N = -1 },
			func(m *api.Msg) { m.Path[0] = api.Step{Tx: 7, Seq: 9} },
			func(m *api.Msg) { m.Path[7].Seq = 1 },
		} {
			wrong := m
			spoil(&wrong)
			all = append(all, wrong)
		}
	}
	nowhere, noMode := granted(7, 9), granted(7, 9)
	nowhere.At, noMode.Mode = api.Res{}, api.None
	somewhere, someMode := refused(7, 9, 9), refused(7, 9, 9)
	somewhere.At, someMode.Mode = api.Res{Table: 3}, api.IS
	return append(all, nowhere, noMode, somewhere, someMode)
}

func TestCloseOfWhatMayNotBe(t *testing.T) {
	for _, m := range slices.Concat(spoiled(), check.WrongMessages()) {
		b := open(t, m)
		closesNot(t, b, m, api.ErrForm)
		waits(t, b, 7, 9)
		closes(t, b, granted(7, 9))
	}
}

func TestCloseOfNumbersThatMayNotBe(t *testing.T) {
	b := three(t)
	for _, wrong := range wrongNumbers {
		for _, right := range numbers {
			for _, step := range []api.Step{{Tx: wrong, Seq: right}, {Tx: right, Seq: wrong}, {Tx: wrong, Seq: wrong}, {Tx: 7, Seq: wrong}} {
				closesNot(t, b, granted(step.Tx, step.Seq), api.ErrForm)
				closesNot(t, b, refused(step.Tx, step.Seq, 9), api.ErrForm)
			}
		}
	}
	all(t, b, 5, 7, 9)
}

func TestCloseTellsTheFormFirst(t *testing.T) {
	b := three(t)
	for _, m := range spoiled() {
		for _, step := range []api.Step{
			{Tx: 8, Seq: 80},                                                       // of none
			{Tx: 5, Seq: 49}, {Tx: 5, Seq: 51}, {Tx: 7, Seq: 69}, {Tx: 7, Seq: 71}, // not the last one's
			{Tx: 7, Seq: 70}, {Tx: 9, Seq: 90}, // that has an answer
		} {
			m.Tx, m.Seq = step.Tx, step.Seq
			closesNot(t, b, m, api.ErrForm)
		}
	}
}

func TestCloseOfOneThatHasNone(t *testing.T) {
	b := three(t)
	for _, tx := range numbers {
		if tx == 7 || tx == 9 {
			continue
		}
		for _, m := range slices.Concat(answers(tx, 1), answers(tx, 70), answers(tx, 1048576)) {
			closesNot(t, b, m, api.ErrNone)
		}
		hasNone(t, b, tx)
	}
}

func TestCloseOfAnotherNumber(t *testing.T) {
	for _, last := range numbers {
		for _, answer := range []api.Msg{{}, granted(7, last), refused(7, last, 9)} {
			b := memo.New()
			opens(t, b, 7, last)
			if answer != (api.Msg{}) { // ahead of ErrDone
				closes(t, b, answer)
			}
			for _, seq := range numbers {
				if seq != last {
					closesNot(t, b, granted(7, seq), api.ErrStale)
					closesNot(t, b, refused(7, seq, 9), api.ErrStale)
				}
			}
			isLast(t, b, 7, last)
		}
	}
}

func TestCloseOfOneThatHasAnAnswer(t *testing.T) {
	for _, first := range answers(7, 9) {
		b := memo.New()
		opens(t, b, 7, 9)
		closes(t, b, first)
		for _, then := range answers(7, 9) { // the same one among them
			closesNot(t, b, then, api.ErrDone)
			isDone(t, b, first)
		}
	}
}

func TestCloseOfARequestAhead(t *testing.T) {
	b := memo.New()
	opens(t, b, 7, 1)
	opens(t, b, 7, 2)
	closesNot(t, b, granted(7, 1), api.ErrStale)
	closesNot(t, b, granted(7, 3), api.ErrStale)
	waits(t, b, 7, 2)
	closes(t, b, refused(7, 2, 9))
	closesNot(t, b, granted(7, 1), api.ErrStale)
	closesNot(t, b, granted(7, 2), api.ErrDone)
}

func TestAnswersAreKeptAsTheyWere(t *testing.T) {
	for _, was := range answers(7, 9) {
		b := memo.New()
		opens(t, b, 7, 9)
		m := was
		closes(t, b, m)
		m.Kind, m.Code, m.Path[3] = api.KRefused, 1+m.Code%15, api.Step{Tx: 1, Seq: 1}
		isDone(t, b, was)
		told, _ := b.Open(7, 9)
		told.Tx, told.At.Row, told.Path[0].Seq = 8, 1+told.At.Row, 4
		isDone(t, b, was)
	}
}

// P13.3

func TestForgetOfEach(t *testing.T) {
	for _, tx := range []int{5, 7, 9} {
		b := three(t)
		forgets(t, b, tx)
		closesNot(t, b, granted(tx, 10*tx), api.ErrNone)
		closesNot(t, b, refused(tx, 10*tx, 9), api.ErrNone)
		all(t, b, slices.DeleteFunc([]int{5, 7, 9}, func(other int) bool { return other == tx })...)
		if tx != 5 {
			waits(t, b, 5, 50)
		}
		if tx != 7 {
			isDone(t, b, granted(7, 70))
		}
		if tx != 9 {
			isDone(t, b, refused(9, 90, 9))
		}
	}
}

func TestForgetOfAll(t *testing.T) {
	b := memo.New()
	for i, tx := range mixed {
		opens(t, b, tx, 9)
		if i%2 == 0 {
			closes(t, b, granted(tx, 9))
		}
	}
	left := rising(mixed)
	for _, tx := range mixed {
		forgets(t, b, tx)
		left = slices.DeleteFunc(left, func(other int) bool { return other == tx })
		all(t, b, left...)
	}
	for _, tx := range mixed {
		hasNone(t, b, tx)
	}
}

func TestForgetOfOnesThatHaveNone(t *testing.T) {
	b := three(t)
	for _, tx := range slices.Concat(wrongNumbers, []int{1, 6, 8, 10, -5, -7, 5 + 256, 7 + 65536, 9 + 1<<20, 7 + 1<<32, 50, 70, 90, 1048576}) {
		hasNone(t, b, tx)
	}
	all(t, b, 5, 7, 9)
}

func TestOpenBehindAForget(t *testing.T) {
	for _, first := range numbers {
		for _, then := range numbers {
			for _, answer := range []api.Msg{{}, granted(7, first), refused(7, first, 9)} {
				b := three(t)
				forgets(t, b, 7)
				opens(t, b, 7, first)
				if answer != (api.Msg{}) {
					closes(t, b, answer)
				}
				forgets(t, b, 7)
				opens(t, b, 7, then)
				waits(t, b, 7, then)
				all(t, b, 5, 7, 9)
				closes(t, b, refused(7, then, 1))
				waits(t, b, 5, 50)
				isDone(t, b, refused(9, 90, 9))
			}
		}
	}
}

func TestLastGoesOnWithEachRequest(t *testing.T) {
	b := memo.New()
	for _, seq := range numbers {
		opens(t, b, 7, seq)
		isLast(t, b, 7, seq)
		closes(t, b, granted(7, seq))
		isLast(t, b, 7, seq)
		fails(t, b, 7, seq-1, map[bool]api.Errno{true: api.ErrArg, false: api.ErrStale}[seq == 1])
		isLast(t, b, 7, seq)
	}
	all(t, b, 7)
}

func TestAllIsRising(t *testing.T) {
	b, by := memo.New(), uint64(13)
	txs := check.UpTo(1, 5000)
	check.Mix(txs, &by)
	for i, tx := range txs {
		if m, err := b.Open(tx, 1+i); m != (api.Msg{}) || err != nil {
			t.Fatal(m, err)
		}
		if i < 20 || i == 4999 {
			all(t, b, rising(txs[:i+1])...)
		}
	}
	for _, tx := range txs[:2500] {
		if err := b.Forget(tx); err != nil {
			t.Fatal(err)
		}
	}
	for range 5 {
		all(t, b, rising(txs[2500:])...)
	}
}

func TestAllOfFarNumbersIsRising(t *testing.T) {
	b := memo.New()
	for i, tx := range mixed {
		opens(t, b, tx, 1048576-i)
		all(t, b, rising(mixed[:i+1])...)
	}
}

func TestWhatIsToldIsNewMemory(t *testing.T) {
	b := three(t)
	was := b.All()
	check.Spoil(b.All(), -1)
	_ = append(b.All()[:1], -1)
	all(t, b, 5, 7, 9)
	forgets(t, b, 7)
	opens(t, b, 6, 1)
	if !slices.Equal(was, []int{5, 7, 9}) {
		t.Errorf("what was told is %v now", was)
	}
}

func TestTellingTakesNothing(t *testing.T) {
	b := three(t)
	for range 3 {
		all(t, b, 5, 7, 9)
		isLast(t, b, 5, 50)
		isLast(t, b, 7, 70)
		waits(t, b, 5, 50)
		isDone(t, b, granted(7, 70))
		isDone(t, b, refused(9, 90, 9))
	}
}

func TestBooksAreApart(t *testing.T) {
	a, b, c := three(t), three(t), memo.New()
	forgets(t, a, 7)
	closes(t, b, refused(5, 50, 3))
	opens(t, b, 9, 91)
	all(t, a, 5, 9)
	waits(t, a, 5, 50)
	isDone(t, a, refused(9, 90, 9))
	isDone(t, b, granted(7, 70))
	all(t, c)
	hasNone(t, c, 5)
}

func TestNilBook(t *testing.T) {
	var b *memo.Book
	for _, tx := range slices.Concat(numbers, wrongNumbers) {
		for _, seq := range slices.Concat(numbers, wrongNumbers) {
			fails(t, b, tx, seq, api.ErrArg)
			closesNot(t, b, granted(tx, seq), api.ErrArg)
		}
		if seq, err := b.Last(tx); seq != 0 || !check.Plain(err, api.ErrArg) {
			t.Errorf("Last(%d) of nil = %d, %v", tx, seq, err)
		}
		if err := b.Forget(tx); !check.Plain(err, api.ErrArg) {
			t.Errorf("Forget(%d) of nil = %v", tx, err)
		}
	}
	for _, m := range slices.Concat(check.Messages(), check.WrongMessages(), spoiled()) {
		closesNot(t, b, m, api.ErrArg)
	}
	all(t, b)
}

// The document's examples.

func TestExamples(t *testing.T) {
	b := memo.New()
	opens(t, b, 7, 1)
	waits(t, b, 7, 1)
	closes(t, b, granted(7, 1))
	isDone(t, b, granted(7, 1))
	opens(t, b, 7, 2)
	fails(t, b, 7, 1, api.ErrStale)
}
