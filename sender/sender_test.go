package sender_test

import (
	"math"
	"math/rand"
	"slices"
	"strconv"
	"strings"
	"testing"
	"unsafe"

	"rivulet/api"
	"rivulet/sender"
)

const (
	mostEpoch  = 1 << 40
	mostWindow = 16
	mostWait   = 1000
	mostCredit = 64
)

// odd are texts of which a sender must make nothing of its own: no text at all, bytes of no rune, one longer than any frame.
var odd = []string{"", "\x00", "\xff\xfe", "a\n", "é", " ", strings.Repeat("ab", api.MaxText)}

// kept is a text under way, as the document's words have it.
type kept struct {
	sender.Item
	sent bool
}

// plain is a sender as the document's words have it: each text has its number, and whether it was sent.
type plain struct {
	epoch, window, wait, credit int
	pushed, had, last           int
	under                       []kept
}

func (p *plain) room() int {
	least := p.window
	if p.credit < least {
		least = p.credit
	}
	if len(p.under) > least {
		return 0
	}
	return least - len(p.under)
}

func (p *plain) push(text string) (int, api.Errno) {
	if p.room() == 0 {
		return 0, api.ErrFull
	}
	p.pushed++
	p.under = append(slices.Clone(p.under), kept{Item: sender.Item{Seq: p.pushed, Text: text}})
	return p.pushed, api.OK
}

func (p *plain) due(now int) []sender.Item {
	if p.last > now {
		now = p.last
	}
	anySent := slices.ContainsFunc(p.under, func(x kept) bool { return x.sent })
	all := anySent && now-p.last >= p.wait
	var out []sender.Item
	for i, x := range p.under {
		if all || !x.sent {
			out = append(out, x.Item)
			p.under[i].sent = true
		}
	}
	if len(out) > 0 {
		p.last = now
	}
	return out
}

func (p *plain) take(epoch, seq, credit int) (int, api.Errno) {
	if epoch != p.epoch {
		return 0, api.ErrState
	}
	if credit < 0 || credit > mostCredit {
		return 0, api.ErrArg
	}
	if seq < 0 || seq > p.pushed {
		return 0, api.ErrNone
	}
	if seq < p.had {
		return 0, api.ErrOld
	}
	var left []kept
	for _, x := range p.under {
		if x.Seq > seq {
			left = append(left, x)
		}
	}
	n := len(p.under) - len(left)
	p.under, p.had, p.credit = left, seq, credit
	return n, api.OK
}

func (p *plain) items() []sender.Item {
	var out []sender.Item
	for _, x := range p.under {
		out = append(out, x.Item)
	}
	return out
}

// bench is a sender beside a plain one: what is done, is done to both, and what they tell is held against each other.
type bench struct {
	t *testing.T
	s *sender.Sender
	p *plain
}

func newBench(t *testing.T, epoch, window, wait int) *bench {
	t.Helper()
	s, e := sender.New(epoch, window, wait)
	if e != api.OK || s == nil {
		t.Fatalf("New(%d, %d, %d): %v, %d", epoch, window, wait, s, e)
	}
	x := &bench{t, s, &plain{epoch: epoch, window: window, wait: wait, credit: window}}
	x.looks("new")
	return x
}

// looks holds what a sender tells, and goes on telling.
func (x *bench) looks(name string) {
	x.t.Helper()
	for range 2 {
		if got, want := x.s.Room(), x.p.room(); got != want {
			x.t.Fatalf("%s: Room %d, want %d", name, got, want)
		}
		if got, want := x.s.Next(), x.p.pushed+1; got != want {
			x.t.Fatalf("%s: Next %d, want %d", name, got, want)
		}
		if got, want := x.s.Had(), x.p.had; got != want {
			x.t.Fatalf("%s: Had %d, want %d", name, got, want)
		}
		if got, want := x.s.Under(), x.p.items(); !slices.Equal(got, want) {
			x.t.Fatalf("%s: Under %v, want %v", name, got, want)
		}
	}
	if n := len(x.s.Under()); n > x.p.window {
		x.t.Fatalf("%s: %d under way, with a window of %d", name, n, x.p.window)
	}
}

func (x *bench) push(text string) {
	x.t.Helper()
	n, e := x.s.Push(text)
	if want, wantE := x.p.push(text); n != want || e != wantE {
		x.t.Fatalf("Push(%q): %d, %d, want %d, %d", text, n, e, want, wantE)
	}
	x.looks("behind Push")
}

// fill pushes texts until there is no room, and one more.
func (x *bench) fill() {
	x.t.Helper()
	for range x.p.room() + 1 {
		x.push("t" + strconv.Itoa(x.p.pushed+1))
	}
}

func (x *bench) due(now int) {
	x.t.Helper()
	last := x.p.last
	want := x.p.due(now)
	if got := x.s.Due(now); !slices.Equal(got, want) {
		x.t.Fatalf("Due(%d), last sent at %d: %v, want %v", now, last, got, want)
	}
	x.looks("behind Due")
}

func (x *bench) take(epoch, seq, credit int) {
	x.t.Helper()
	n, e := x.s.Take(epoch, seq, credit)
	if want, wantE := x.p.take(epoch, seq, credit); n != want || e != wantE {
		x.t.Fatalf("Take(%d, %d, %d): %d, %d, want %d, %d", epoch, seq, credit, n, e, want, wantE)
	}
	x.looks("behind Take")
}

// dues holds what is due at some times against numbers written out.
func (x *bench) dues(now int, want ...int) {
	x.t.Helper()
	var got []int
	for _, item := range x.s.Due(now) {
		got = append(got, item.Seq)
	}
	x.p.due(now)
	if !slices.Equal(got, want) {
		x.t.Fatalf("Due(%d): %v, want %v", now, got, want)
	}
	x.looks("behind Due")
}

// isNone holds that there is no sender beside ErrArg.
func isNone(t *testing.T, epoch, window, wait int) {
	t.Helper()
	if s, e := sender.New(epoch, window, wait); s != nil || e != api.ErrArg {
		t.Errorf("New(%d, %d, %d): %v, %d, want none, ErrArg", epoch, window, wait, s, e)
	}
}

// P12.1: epochs 1 to 2^40, windows 1 to 16 and waits 1 to 1000 may be, and no other ones.
func TestNewEdges(t *testing.T) {
	for _, epoch := range []int{1, 2, 7, 1 << 32, mostEpoch - 1, mostEpoch} {
		newBench(t, epoch, 2, 5).take(epoch, 0, 1)
	}
	for _, epoch := range []int{math.MinInt, -mostEpoch, -1, 0, mostEpoch + 1, mostEpoch * 2, 1<<62 + 1, math.MaxInt} {
		isNone(t, epoch, 2, 5)
	}
	for window := -20; window < 300; window++ {
		if 1 <= window && window <= mostWindow {
			newBench(t, 1, window, 5).fill()
		} else {
			isNone(t, 1, window, 5)
		}
	}
	for wait := -20; wait < 1300; wait++ {
		if 1 <= wait && wait <= mostWait {
			newBench(t, 1, 2, wait)
		} else {
			isNone(t, 1, 2, wait)
		}
	}
	for _, n := range []int{math.MinInt, math.MinInt32, 1 << 16, 1<<32 + 1, 1<<40 + 1, math.MaxInt} {
		isNone(t, 1, n, 5)
		isNone(t, 1, 2, n)
	}
}

// P12.1: several arguments that may not be, and each of the edges beside the others.
func TestNewTogether(t *testing.T) {
	epochs, windows, waits := []int{0, 1, mostEpoch, mostEpoch + 1}, []int{0, 1, mostWindow, mostWindow + 1}, []int{0, 1, mostWait, mostWait + 1}
	for i, epoch := range epochs {
		for j, window := range windows {
			for k, wait := range waits {
				if i%3 == 0 || j%3 == 0 || k%3 == 0 {
					isNone(t, epoch, window, wait)
				} else {
					newBench(t, epoch, window, wait).fill()
				}
			}
		}
	}
}

// P12.1: a new sender has no texts, room for as many as its window, and nothing is due, whenever it is asked.
func TestNewHasNothing(t *testing.T) {
	s, e := sender.New(1, 3, 5)
	if e != api.OK || s.Room() != 3 || s.Next() != 1 || s.Had() != 0 || len(s.Under()) != 0 {
		t.Fatal(e, s.Room(), s.Next(), s.Had(), s.Under())
	}
	for _, now := range []int{math.MinInt, -1, 0, 1, 5, 1000, math.MaxInt} {
		if l := s.Due(now); len(l) != 0 {
			t.Errorf("Due(%d): %v", now, l)
		}
	}
	if n, e := s.Take(1, 0, 3); n != 0 || e != api.OK {
		t.Error(n, e)
	}
	if n, e := s.Take(1, 1, 3); n != 0 || e != api.ErrNone {
		t.Error(n, e)
	}
}

// P12.1: each New is a sender of its own.
func TestNewApart(t *testing.T) {
	x, y := newBench(t, 1, 2, 5), newBench(t, 1, 2, 5)
	x.push("a")
	y.looks("the other one")
	y.push("b")
	y.push("c")
	x.dues(3, 1)
	y.dues(0, 1, 2)
	y.take(1, 2, 9)
	x.looks("the one")
	x.dues(7)
	x.dues(8, 1)
}

// P12.2 to P12.4: the document's example.
func TestExample(t *testing.T) {
	s, e := sender.New(1, 2, 5)
	if e != api.OK {
		t.Fatal(e)
	}
	for i, text := range []string{"a", "b"} {
		if n, e := s.Push(text); n != i+1 || e != api.OK {
			t.Fatal(text, n, e)
		}
	}
	if n, e := s.Push("c"); n != 0 || e != api.ErrFull {
		t.Fatal(n, e)
	}
	a, b := sender.Item{Seq: 1, Text: "a"}, sender.Item{Seq: 2, Text: "b"}
	for _, x := range []struct {
		now  int
		want []sender.Item
	}{{0, []sender.Item{a, b}}, {4, nil}, {5, []sender.Item{a, b}}} {
		if l := s.Due(x.now); !slices.Equal(l, x.want) {
			t.Fatal(x.now, l)
		}
	}
	if n, e := s.Take(1, 1, 2); n != 1 || e != api.OK {
		t.Fatal(n, e)
	}
	if l := s.Due(5); len(l) != 0 {
		t.Fatal(l)
	}
}

// P12.2: the room at each window, each credit, and each number of texts under way: numbers written out.
func TestRoom(t *testing.T) {
	for window := 1; window <= mostWindow; window++ {
		for credit := 0; credit <= mostCredit; credit++ {
			for under := range window + 1 {
				x := newBench(t, 1, window, 5)
				for range under {
					x.push("a")
				}
				if n := x.s.Room(); n != window-under {
					t.Fatalf("window %d, %d under way: Room %d", window, under, n)
				}
				x.take(1, 0, credit)
				want := max(0, min(window, credit)-under)
				if n := x.s.Room(); n != want {
					t.Fatalf("window %d, credit %d, %d under way: Room %d, want %d", window, credit, under, n, want)
				}
				x.fill()
				if n := len(x.s.Under()); n != max(under, min(window, credit)) {
					t.Fatalf("window %d, credit %d: filled to %d", window, credit, n)
				}
			}
		}
	}
}

// P12.2: the window is not passed by a credit that is above it, and what was had makes room again.
func TestRoomAgain(t *testing.T) {
	x := newBench(t, 1, 4, 5)
	x.take(1, 0, mostCredit)
	for i, room := range []int{0, 1, 4, 2, 3, 0, 0, 4} {
		x.fill()
		if x.s.Room() != 0 {
			t.Fatal(i, x.s.Room())
		}
		x.take(1, x.s.Had()+room, mostCredit)
		if x.s.Room() != room {
			t.Fatal(i, x.s.Room(), room)
		}
	}
}

// P12.2: what finds no room has no number, is not under way, and is never due; nor does it change when what is there is.
func TestPushFull(t *testing.T) {
	for _, window := range []int{1, 2, 16} {
		x := newBench(t, 1, window, 5)
		x.fill()
		x.due(3)
		for range 3 {
			if n, e := x.s.Push("more"); n != 0 || e != api.ErrFull {
				t.Fatal(n, e)
			}
			x.looks("full")
		}
		x.dues(7)
		x.due(8)
		x.take(1, 1, 0)
		if n, e := x.s.Push("more"); n != 0 || e != api.ErrFull {
			t.Fatal("a credit of 0", n, e)
		}
		x.take(1, 1, window)
		x.push("last")
		x.dues(9, window+1)
	}
}

// P12.2, P12.3, P12.5: any text may be pushed, is told byte for byte, and may be the same as another one; one of no bytes is one.
func TestOddTexts(t *testing.T) {
	x := newBench(t, 1, mostWindow, 5)
	for _, text := range append(slices.Clone(odd), odd...) {
		x.push(text)
	}
	x.due(0)
	x.due(4)
	x.due(5)
	for seq := range 2*len(odd) + 1 {
		x.take(1, seq, mostCredit)
		x.due(5 * (seq + 2))
	}
}

// P12.3: new texts are due at once, those that were sent at the wait and no sooner; sending one puts off all.
func TestDue(t *testing.T) {
	x := newBench(t, 1, 4, 5)
	x.push("a")
	x.dues(0, 1)
	x.dues(0)
	x.push("b")
	x.dues(2, 2)
	x.dues(5)
	x.dues(6)
	x.dues(7, 1, 2)
	x.dues(11)
	x.push("c")
	x.dues(12, 1, 2, 3)
	x.push("d")
	x.dues(16, 4)
	x.dues(20)
	x.dues(21, 1, 2, 3, 4)
	x.dues(1000, 1, 2, 3, 4)
	x.dues(1004)
	x.dues(1005, 1, 2, 3, 4)
}

// P12.3: asking when nothing is due does not put off what is.
func TestDueOfNone(t *testing.T) {
	x := newBench(t, 1, 4, 3)
	x.dues(50)
	x.push("a")
	x.dues(2, 1)
	x.dues(3)
	x.dues(4)
	x.dues(5, 1)
	x.take(1, 1, 4)
	x.dues(100)
	x.push("b")
	x.dues(6, 2)
	x.dues(8)
	x.dues(9, 2)
}

// P12.3: a time that is ahead of when it sent last is that time, so that nothing is sent again ahead of the wait.
func TestDueBack(t *testing.T) {
	x := newBench(t, 1, 4, 5)
	x.push("a")
	x.dues(20, 1)
	for _, now := range []int{19, 0, -1, -1000, math.MinInt, math.MinInt + 25} {
		x.dues(now)
	}
	x.push("b")
	x.dues(3, 2)
	x.dues(8)
	x.dues(24)
	x.dues(25, 1, 2)
	x.push("c")
	x.dues(math.MinInt, 3)
	x.dues(29)
	x.dues(30, 1, 2, 3)
}

// P12.3: at first it sent last at 0: a first time below 0 is 0.
func TestDueBelowZero(t *testing.T) {
	for _, now := range []int{math.MinInt, -1000, -5, -1, 0} {
		x := newBench(t, 1, 2, 5)
		x.push("a")
		x.dues(now, 1)
		x.dues(now + 4)
		x.dues(-1)
		x.dues(4)
		x.dues(5, 1)
	}
}

// P12.3: the first time is any time, be it ahead of the wait or not.
func TestDueFirst(t *testing.T) {
	for _, now := range []int{0, 1, 4, 5, 6, 100} {
		x := newBench(t, 1, 2, 5)
		x.push("a")
		x.dues(now, 1)
		x.push("b")
		x.dues(now+1, 2)
		x.dues(now + 5)
		x.dues(now+6, 1, 2)
	}
}

// P12.3: the greatest times: none is above them, so nothing is sent again.
func TestDueGreatest(t *testing.T) {
	for _, wait := range []int{1, 2, 999, 1000} {
		x := newBench(t, 1, 3, wait)
		x.push("a")
		x.dues(math.MaxInt-wait, 1)
		x.dues(math.MaxInt - 1)
		x.dues(math.MaxInt, 1)
		x.dues(math.MaxInt)
		x.dues(0)
		x.dues(math.MinInt)
		x.push("b")
		x.dues(math.MaxInt, 2)
		x.dues(math.MaxInt)
	}
}

// P12.3: each wait, one tick ahead of it, at it, and one behind it.
func TestDueEveryWait(t *testing.T) {
	for wait := 1; wait <= mostWait; wait++ {
		x := newBench(t, 1, 2, wait)
		x.push("a")
		x.push("b")
		x.dues(7, 1, 2)
		x.dues(7 + wait - 1)
		x.dues(7+wait, 1, 2)
		x.dues(7 + 2*wait - 1)
		x.dues(7+2*wait+1, 1, 2)
		x.dues(7 + 3*wait)
		x.dues(7+3*wait+1, 1, 2)
	}
}

// P12.3, P12.4: what has come is due no more; the others are, with their old numbers, and when they were to be.
func TestDueBehindTake(t *testing.T) {
	x := newBench(t, 1, 4, 5)
	x.fill()
	x.dues(0, 1, 2, 3, 4)
	x.take(1, 2, 4)
	x.dues(4)
	x.dues(5, 3, 4)
	x.push("e")
	x.take(1, 4, 4)
	x.dues(6, 5)
	x.push("f")
	x.dues(10, 6)
	x.dues(15, 5, 6)
	x.take(1, 6, 0)
	x.dues(20)
	x.dues(1000)
}

// P12.3, P12.4: texts may come to be had that were not sent yet; those behind them are new.
func TestTakeOfUnsent(t *testing.T) {
	x := newBench(t, 1, 4, 5)
	x.fill()
	x.take(1, 2, 4)
	x.push("e")
	x.dues(1, 3, 4, 5)
	x.push("f")
	x.take(1, 6, 4)
	x.push("g")
	x.dues(2, 7)
	x.push("h")
	x.take(1, 7, 4)
	x.dues(7, 8)
	x.push("i")
	x.take(1, 8, 4)
	x.dues(12, 9)
	x.dues(16)
	x.dues(17, 9)
}

// P12.3: with a credit of 0, or less than there are under way, they are due all the same.
func TestDueWithoutCredit(t *testing.T) {
	x := newBench(t, 1, 3, 5)
	x.fill()
	x.take(1, 0, 0)
	x.dues(0, 1, 2, 3)
	x.dues(5, 1, 2, 3)
	x.take(1, 1, 1)
	x.dues(10, 2, 3)
	if x.s.Room() != 0 {
		t.Error(x.s.Room())
	}
}

// P12.4: each error, of several the first one, and that each changes nothing: not the credit, nor what is due, or when.
func TestTakeErrors(t *testing.T) {
	epochs, credits := []int{1, 0, 2, -1, mostEpoch, mostEpoch + 1, math.MinInt, math.MaxInt}, []int{5, 0, 64, 65, -1, math.MinInt, math.MaxInt}
	seqs := []int{3, 4, 5, 6, 2, 1, 0, -1, math.MinInt, math.MaxInt, 1<<32 + 4}
	for _, epoch := range epochs {
		for _, credit := range credits {
			for _, seq := range seqs {
				x := newBench(t, 1, 4, 5)
				x.fill()
				x.due(0)
				x.take(1, 3, 3)
				x.push("e")
				var want api.Errno
				switch {
				case epoch != 1:
					want = api.ErrState
				case credit < 0 || credit > 64:
					want = api.ErrArg
				case seq < 0 || seq > 5:
					want = api.ErrNone
				case seq < 3:
					want = api.ErrOld
				}
				room := x.s.Room()
				if n, e := x.s.Take(epoch, seq, credit); e != want || e != api.OK && n != 0 || e == api.OK && n != seq-3 {
					t.Fatalf("Take(%d, %d, %d): %d, %d, want %d", epoch, seq, credit, n, e, want)
				}
				if want != api.OK {
					x.looks("an error")
					if x.s.Room() != room || room != 1 {
						t.Fatal("room", x.s.Room())
					}
					x.dues(1, 5)
					x.dues(6, 4, 5)
				}
			}
		}
	}
}

// P12.4: 0 is a number until one was had, and old from then on.
func TestTakeOfZero(t *testing.T) {
	x := newBench(t, 9, 3, 5)
	x.take(9, 0, 2)
	x.push("a")
	x.take(9, 0, 1)
	if n, e := x.s.Take(9, 0, 3); n != 0 || e != api.OK || x.s.Room() != 2 {
		t.Fatal(n, e, x.s.Room())
	}
	if n, e := x.s.Take(9, 1, 3); n != 1 || e != api.OK || x.s.Had() != 1 {
		t.Fatal(n, e)
	}
	if n, e := x.s.Take(9, 0, 0); n != 0 || e != api.ErrOld || x.s.Room() != 3 {
		t.Fatal(n, e, x.s.Room())
	}
}

// P12.4: the last number that was had, told again, changes the credit alone.
func TestTakeAgain(t *testing.T) {
	x := newBench(t, 1, 4, 5)
	x.fill()
	x.due(0)
	x.take(1, 3, 4)
	for credit := range mostCredit + 1 {
		if n, e := x.s.Take(1, 3, credit); n != 0 || e != api.OK {
			t.Fatal(n, e)
		}
		x.p.credit = credit
		x.looks("again")
		if want := max(0, min(4, credit)-1); x.s.Room() != want {
			t.Fatalf("credit %d: Room %d, want %d", credit, x.s.Room(), want)
		}
	}
	x.dues(4)
	x.dues(5, 4)
}

// P12.4: from each number that was had to each one that was pushed: how many these are.
func TestTakeHowMany(t *testing.T) {
	for window := 1; window <= mostWindow; window++ {
		for first := range window + 1 {
			for second := first; second <= window; second++ {
				x := newBench(t, 1, window, 5)
				x.fill()
				x.take(1, first, window)
				if n, e := x.s.Take(1, second, 64); n != second-first || e != api.OK {
					t.Fatalf("%d, then %d: %d, %d", first, second, n, e)
				}
				if l := x.s.Under(); len(l) != window-second || len(l) > 0 && l[0].Seq != second+1 || x.s.Had() != second || x.s.Next() != window+1 {
					t.Fatalf("%d, then %d: %v, %d, %d", first, second, l, x.s.Had(), x.s.Next())
				}
			}
		}
	}
}

// P12.2, P12.4, P12.5: numbers go on and on, none is given twice, whatever was had.
func TestNumbersGoOn(t *testing.T) {
	x := newBench(t, mostEpoch, 3, 2)
	for i := range 5000 {
		x.push(strconv.Itoa(i))
		if x.s.Next() != i+2 {
			t.Fatal(i, x.s.Next())
		}
		if i%3 == 2 {
			x.due(i)
			x.take(mostEpoch, i+1-i%2, mostCredit)
			x.take(mostEpoch, i+1, mostCredit)
		}
	}
}

// P12.5: what is told changes nothing, and is the same, however often it is asked.
func TestAskedOften(t *testing.T) {
	x := newBench(t, 1, 4, 5)
	x.fill()
	x.take(1, 1, 4)
	x.dues(2, 2, 3, 4)
	x.push("e")
	for range 20 {
		x.looks("often")
	}
	x.dues(6, 5)
	x.dues(10)
	x.dues(11, 2, 3, 4, 5)
}

// P12.6: over a way, and a way back, on which much is lost, doubled and late, each text comes, in order, each once, as long as there
// is room there; never more than the window are under way.
func TestUntilItHasCome(t *testing.T) {
	r := rand.New(rand.NewSource(126))
	for range 200 {
		x := newBench(t, 3, 1+r.Intn(mostWindow), 1+r.Intn(6))
		const texts = 60
		had := 0
		var acks []int
		for now := 0; x.s.Had() < texts; now++ {
			if now > 100000 {
				t.Fatal("never")
			}
			for x.s.Next() <= texts && x.s.Room() > 0 && r.Intn(4) > 0 {
				x.push(strconv.Itoa(x.s.Next()))
			}
			want := x.p.due(now)
			got := x.s.Due(now)
			if !slices.Equal(got, want) {
				t.Fatalf("Due(%d): %v, want %v", now, got, want)
			}
			for _, item := range got {
				if r.Intn(3) > 0 && item.Seq == had+1 && item.Text == strconv.Itoa(item.Seq) {
					had++
				}
				acks = append(acks, had)
			}
			if r.Intn(4) == 0 { // the other end tells its room without being asked, too
				acks = append(acks, had)
			}
			for range r.Intn(3) {
				if len(acks) > 0 {
					at := r.Intn(len(acks))
					x.take(3, acks[at], r.Intn(mostCredit+1))
					acks = slices.Delete(acks, at, at+1)
				}
			}
		}
		if had != texts || len(x.s.Under()) != 0 {
			t.Fatal(had, x.s.Under())
		}
	}
}

// P12.2 to P12.6: every row of up to 6 calls.
func TestEveryRow(t *testing.T) {
	calls := []func(x *bench, at int){
		func(x *bench, at int) { x.push(strconv.Itoa(at)) },
		func(x *bench, at int) { x.due(0) },
		func(x *bench, at int) { x.due(at) },
		func(x *bench, at int) { x.due(2 * at) },
		func(x *bench, at int) { x.take(1, x.p.had, at%3) },
		func(x *bench, at int) { x.take(1, x.p.had+1, 9) },
		func(x *bench, at int) { x.take(1, x.p.pushed, 1) },
	}
	rows := 1
	for range 6 {
		rows *= len(calls)
	}
	for row := range rows {
		x := newBench(t, 1, 2, 2)
		for at, left := 0, row; at < 6; at++ {
			calls[left%len(calls)](x, at)
			left /= len(calls)
		}
	}
}

// P12.1 to P12.6, R2, R5: long rows of calls by chance, held against a plain sender.
func TestByChance(t *testing.T) {
	r := rand.New(rand.NewSource(12))
	for range 400 {
		epoch, wait := 1+r.Intn(mostEpoch), 1+r.Intn(8)
		if r.Intn(5) == 0 {
			wait = 1 + r.Intn(mostWait)
		}
		x := newBench(t, epoch, 1+r.Intn(mostWindow), wait)
		now := 0
		for range 200 {
			switch n := r.Intn(20); {
			case n < 8:
				x.push(strings.Repeat("s", r.Intn(2)) + strconv.Itoa(r.Intn(3)))
			case n < 13:
				now += r.Intn(wait + 1)
				x.due(now - r.Intn(6)/5*r.Intn(2*wait))
			case n < 17:
				x.take(epoch, x.p.had+r.Intn(len(x.p.under)+1), r.Intn(20))
			case n < 18:
				x.take(epoch, r.Intn(x.p.pushed+4)-2, r.Intn(mostCredit+5)-2)
			case n < 19:
				x.take(epoch+r.Intn(3)-1, x.p.had+r.Intn(3)-1, r.Intn(mostCredit))
			default:
				x.take(epoch, x.p.pushed, mostCredit)
			}
		}
	}
}

// R4: what is pushed is not kept: when its memory changes, the text under way does not.
func TestPushKeepsNothing(t *testing.T) {
	bytes := []byte("abc")
	x := newBench(t, 1, 2, 5)
	if n, e := x.s.Push(unsafe.String(&bytes[0], len(bytes))); n != 1 || e != api.OK {
		t.Fatal(n, e)
	}
	x.p.push("abc")
	bytes[0] = 'x'
	x.looks("changed")
	x.due(0)
	x.due(5)
}

// R4: lists that were told are the caller's: when they change, also in the room behind them, nothing else does.
func TestListsAreNew(t *testing.T) {
	spoil := func(l []sender.Item) {
		for i := range l[:cap(l)] {
			l[:cap(l)][i] = sender.Item{Seq: 99, Text: "changed"}
		}
	}
	for window := 1; window <= mostWindow; window++ {
		x := newBench(t, 1, window, 5)
		x.fill()
		for i := range 3 {
			l, m := x.s.Under(), x.s.Due(5*i)
			x.p.due(5 * i)
			spoil(l)
			if !slices.Equal(m, x.p.items()) {
				t.Fatal("two answers share a list", m)
			}
			spoil(m)
			x.looks("spoiled")
		}
		l, m := x.s.Under(), x.s.Due(20)
		want := x.p.items()
		x.p.due(20)
		x.take(1, 1, 64)
		x.push("new")
		x.due(21)
		if !slices.Equal(l, want) || !slices.Equal(m, want) {
			t.Fatalf("what was told has changed: %v, %v, want %v", l, m, want)
		}
	}
}

// R4: what is answered is new memory: no text of an answer is where one is that was pushed, or told by another call, or beside it.
func TestTextsAreNew(t *testing.T) {
	text := strings.Repeat("a", 40)
	s, _ := sender.New(1, 3, 1)
	texts := []string{text}
	for range 3 {
		s.Push(text)
	}
	for now := range 3 {
		for _, item := range append(s.Under(), s.Due(now)...) {
			texts = append(texts, item.Text)
		}
	}
	if len(texts) != 19 {
		t.Fatal(len(texts))
	}
	for i := range texts {
		for j := range i {
			if overlap(texts[i], texts[j]) || overlap(texts[j], texts[i]) {
				t.Errorf("texts %d and %d of %d share memory", j, i, len(texts))
			}
		}
	}
}

func overlap(whole, s string) bool {
	at := uintptr(unsafe.Pointer(unsafe.StringData(s)))
	begin := uintptr(unsafe.Pointer(unsafe.StringData(whole)))
	return len(s) > 0 && begin <= at && at < begin+uintptr(len(whole))
}
