package mail_test

import (
	"math"
	"math/rand"
	"slices"
	"strconv"
	"strings"
	"testing"
	"unsafe"

	"rivulet/api"
	"rivulet/mail"
)

const greatest = 256

// odd are texts of which a box must make nothing of its own: no text at all, bytes of no rune, one longer than any frame.
var odd = []string{"", "\x00", "\xff\xfe", "a\n", "é", " ", strings.Repeat("ab", api.MaxText)}

// box is a new box of a size, with texts in it.
func box(t *testing.T, size int, texts ...string) *mail.Box {
	t.Helper()
	b, e := mail.New(size)
	if e != api.OK || b == nil {
		t.Fatalf("New(%d): %v, %d", size, b, e)
	}
	for _, s := range texts {
		if e := b.Put(s); e != api.OK {
			t.Fatalf("Put(%q) into a box of %d: %d", s, size, e)
		}
	}
	return b
}

// counted are so many texts, each another one.
func counted(n int) []string {
	var out []string
	for i := range n {
		out = append(out, "t"+strconv.Itoa(i))
	}
	return out
}

// looks holds what a box tells, and goes on telling, against its size and the texts that it must have.
func looks(t *testing.T, name string, b *mail.Box, size int, want []string) {
	t.Helper()
	for range 2 {
		if n := b.Len(); n != len(want) {
			t.Fatalf("%s: Len %d, want %d", name, n, len(want))
		}
		if n := b.Room(); n != size-len(want) {
			t.Fatalf("%s: Room %d, want %d", name, n, size-len(want))
		}
		s, is := b.First()
		if is != (len(want) > 0) || is && s != want[0] || !is && s != "" {
			t.Fatalf("%s: First %q, %t, want the first of %q", name, s, is, want)
		}
	}
}

// has is looks, and holds all of the texts against a copy, that is emptied.
func has(t *testing.T, name string, b *mail.Box, size int, want []string) {
	t.Helper()
	looks(t, name, b, size, want)
	if got := b.Copy().All(); !slices.Equal(got, want) {
		t.Fatalf("%s: has %q, want %q", name, got, want)
	}
	looks(t, name, b, size, want)
}

// takes holds what Take tells against a text.
func takes(t *testing.T, name string, b *mail.Box, want string) {
	t.Helper()
	if s, is := b.Take(); s != want || !is {
		t.Fatalf("%s: Take %q, %t, want %q", name, s, is, want)
	}
}

// takesNone holds Take against what it must tell of an empty box.
func takesNone(t *testing.T, name string, b *mail.Box) {
	t.Helper()
	if s, is := b.Take(); s != "" || is {
		t.Fatalf("%s: Take %q, %t, want none", name, s, is)
	}
}

// P8.1: sizes 1 to 256 may be, and no other one.
func TestNewSizes(t *testing.T) {
	for size := -3; size <= 600; size++ {
		b, e := mail.New(size)
		if size >= 1 && size <= greatest {
			if e != api.OK || b == nil {
				t.Fatalf("New(%d): %v, %d", size, b, e)
			}
			looks(t, "new", b, size, nil)
			takesNone(t, "new", b)
		} else if e != api.ErrArg || b != nil {
			t.Errorf("New(%d): %v, %d, want none, ErrArg", size, b, e)
		}
	}
	for _, size := range []int{math.MinInt, math.MinInt + 1, math.MinInt32, -256, 1 << 16, 1<<32 + 1, math.MinInt32 << 8, math.MaxInt - 1, math.MaxInt} {
		if b, e := mail.New(size); e != api.ErrArg || b != nil {
			t.Errorf("New(%d): %v, %d, want none, ErrArg", size, b, e)
		}
	}
}

// P8.1: each New is a box of its own.
func TestNewApart(t *testing.T) {
	a, b := box(t, 2), box(t, 2)
	a.Put("a")
	has(t, "the one", a, 2, []string{"a"})
	has(t, "the other one", b, 2, nil)
}

// P8.2: the document's example.
func TestExample(t *testing.T) {
	b := box(t, 1)
	if e := b.Put("a"); e != api.OK {
		t.Fatal(e)
	}
	if e := b.Put("b"); e != api.ErrFull {
		t.Fatal(e)
	}
	takes(t, "example", b, "a")
	takesNone(t, "example", b)
}

// P8.2, P8.3: a box is filled, is full, does not change by one more, and is emptied, at each of all sizes; Len, Room and First are held at each step.
func TestFillAndEmpty(t *testing.T) {
	for size := 1; size <= greatest; size++ {
		b := box(t, size)
		texts := counted(size)
		for i, s := range texts {
			looks(t, "filling", b, size, texts[:i])
			if e := b.Put(s); e != api.OK {
				t.Fatalf("size %d: Put %d: %d", size, i, e)
			}
		}
		for range 3 {
			looks(t, "full", b, size, texts)
			if e := b.Put("more"); e != api.ErrFull {
				t.Fatalf("size %d: one more: %d", size, e)
			}
		}
		has(t, "full", b, size, texts)
		for i, s := range texts {
			looks(t, "emptying", b, size, texts[i:])
			takes(t, "emptying", b, s)
		}
		for range 3 {
			takesNone(t, "emptied", b)
			looks(t, "emptied", b, size, nil)
		}
	}
}

// P8.2: the room that a Take leaves is there for one Put, and for no more.
func TestFullAgain(t *testing.T) {
	for _, size := range []int{1, 2, 3, 255, 256} {
		texts := counted(size + 700)
		b := box(t, size, texts[:size]...)
		for i := range 700 {
			takes(t, "full", b, texts[i])
			looks(t, "one less", b, size, texts[i+1:i+size])
			if e := b.Put(texts[i+size]); e != api.OK {
				t.Fatalf("size %d: %d", size, e)
			}
			if e := b.Put("more"); e != api.ErrFull {
				t.Fatalf("size %d: one more: %d", size, e)
			}
		}
		has(t, "full again", b, size, texts[700:])
	}
}

// P8.2: First tells what Take tells then, and leaves it, however often it is asked.
func TestFirstStays(t *testing.T) {
	for _, size := range []int{1, 2, 3, 5, 256} {
		for n := range size + 1 {
			texts := counted(n)
			b := box(t, size, texts...)
			for i, want := range texts {
				for range 3 {
					if s, is := b.First(); s != want || !is {
						t.Fatalf("size %d of %d: First %q, %t, want %q", n, size, s, is, want)
					}
				}
				looks(t, "first", b, size, texts[i:])
				takes(t, "first", b, want)
			}
			if s, is := b.First(); s != "" || is {
				t.Fatalf("size %d: First of none: %q, %t", size, s, is)
			}
			takesNone(t, "first", b)
		}
	}
}

// P8.2: any text may be put, and is told byte for byte; a text of no bytes is one.
func TestOddTexts(t *testing.T) {
	b := box(t, 7, odd...)
	has(t, "odd", b, 7, odd)
	for i, s := range odd {
		looks(t, "odd", b, 7, odd[i:])
		takes(t, "odd", b, s)
	}
	takesNone(t, "odd", b)
	one := box(t, 1, "")
	if s, is := one.First(); s != "" || !is || one.Len() != 1 || one.Room() != 0 {
		t.Errorf("an empty text: %q, %t, %d, %d", s, is, one.Len(), one.Room())
	}
	if e := one.Put(""); e != api.ErrFull {
		t.Errorf("an empty text, and one more: %d", e)
	}
	if l := one.All(); len(l) != 1 || l[0] != "" {
		t.Errorf("All of an empty text: %q", l)
	}
}

// P8.3: All takes all out, in order, and leaves an empty box of the same size, into which as much may be put as into a new one.
func TestAll(t *testing.T) {
	for _, size := range []int{1, 2, 3, 17, 255, 256} {
		for _, n := range []int{0, 1, size / 2, size - 1, size} {
			b := box(t, size)
			for again := range 3 {
				want := counted(n + again)[again:]
				for _, s := range want {
					b.Put(s)
				}
				if got := b.All(); !slices.Equal(got, want) {
					t.Fatalf("%d of %d: All %q, want %q", n, size, got, want)
				}
				looks(t, "behind All", b, size, nil)
				takesNone(t, "behind All", b)
				if got := b.All(); len(got) != 0 {
					t.Fatalf("%d of %d: All, and again: %q", n, size, got)
				}
			}
			texts := counted(size)
			for _, s := range texts {
				if e := b.Put(s); e != api.OK {
					t.Fatalf("%d of %d: behind All: Put %d", n, size, e)
				}
			}
			if e := b.Put("more"); e != api.ErrFull {
				t.Fatalf("%d of %d: behind All: one more %d", n, size, e)
			}
			has(t, "behind All", b, size, texts)
		}
	}
}

// P8.3: All of a box of which some were taken has the others alone.
func TestAllOfSome(t *testing.T) {
	b := box(t, 4, "a", "b", "c", "d")
	takes(t, "some", b, "a")
	takes(t, "some", b, "b")
	b.Put("e")
	if l := b.All(); !slices.Equal(l, []string{"c", "d", "e"}) {
		t.Error(l)
	}
	looks(t, "some", b, 4, nil)
}

// P8.3, R7: a copy is in the same state, and what is done to one of both is not seen in the other one.
func TestCopy(t *testing.T) {
	for _, size := range []int{1, 2, 3, 17, 256} {
		for _, n := range []int{0, 1, size / 2, size - 1, size} {
			texts := counted(n)
			for name, work := range works() {
				b := box(t, size, texts...)
				c := b.Copy()
				if c == b {
					t.Fatal("a copy is the box itself")
				}
				want := work(b, texts, size)
				has(t, "the copy, when the box had "+name, c, size, texts)
				has(t, "the box that had "+name, b, size, want)

				b = box(t, size, texts...)
				c = b.Copy()
				want = work(c, texts, size)
				has(t, "the box, when its copy had "+name, b, size, texts)
				has(t, "the copy that had "+name, c, size, want)
			}
		}
	}
}

// works are what can be done to a box: each tells what the box, of which the texts and the size are told, must have then.
func works() map[string]func(b *mail.Box, texts []string, size int) []string {
	return map[string]func(b *mail.Box, texts []string, size int) []string{
		"a Put": func(b *mail.Box, texts []string, size int) []string {
			b.Put("new")
			if len(texts) == size {
				return texts
			}
			return append(slices.Clone(texts), "new")
		},
		"a Take": func(b *mail.Box, texts []string, size int) []string {
			b.Take()
			return texts[min(1, len(texts)):]
		},
		"a First": func(b *mail.Box, texts []string, size int) []string {
			b.First()
			return texts
		},
		"an All": func(b *mail.Box, texts []string, size int) []string {
			b.All()
			return nil
		},
		"a Turn": func(b *mail.Box, texts []string, size int) []string {
			mail.Turn([]*mail.Box{b}, 0)
			return texts[min(1, len(texts)):]
		},
		"a Copy": func(b *mail.Box, texts []string, size int) []string {
			b.Copy().All()
			return texts
		},
		"a Take and a Put": func(b *mail.Box, texts []string, size int) []string {
			b.Take()
			b.Put("new")
			return append(slices.Clone(texts[min(1, len(texts)):]), "new")
		},
	}
}

// P8.3, R7: copies of copies go their own ways; each has the size of the first one.
func TestCopyOfCopy(t *testing.T) {
	a := box(t, 3, "a", "b")
	b := a.Copy()
	b.Put("c")
	c := b.Copy()
	takes(t, "the copy's copy", c, "a")
	c.Put("d")
	if e := c.Put("e"); e != api.ErrFull {
		t.Error("a copy's copy has another size", e)
	}
	has(t, "the first one", a, 3, []string{"a", "b"})
	has(t, "its copy", b, 3, []string{"a", "b", "c"})
	has(t, "the copy's copy", c, 3, []string{"b", "c", "d"})
}

// row are boxes of size 3, each with the texts told.
func row(t *testing.T, texts ...[]string) []*mail.Box {
	t.Helper()
	var out []*mail.Box
	for _, l := range texts {
		out = append(out, box(t, 3, l...))
	}
	return out
}

// P8.4: from each place, the first box with a text, round and round; of the others nothing is taken.
func TestTurn(t *testing.T) {
	none := []string(nil)
	for _, x := range []struct {
		name  string
		texts [][]string
		from  int
		at    int
		s     string
		is    bool
	}{
		{"from the first place, that has one", [][]string{{"a", "x"}, {"b"}, {"c"}}, 0, 0, "a", true},
		{"from the first place, that has none", [][]string{none, none, {"c", "x"}}, 0, 2, "c", true},
		{"from the last place, that has one", [][]string{{"a"}, {"b"}, {"c", "x"}}, 2, 2, "c", true},
		{"from the last place, that has none", [][]string{{"a"}, {"b"}, none}, 2, 0, "a", true},
		{"from the last place, up to the one ahead of it", [][]string{none, {"b"}, none}, 2, 1, "b", true},
		{"from a place in between, that has one", [][]string{{"a"}, {"b"}, {"c"}}, 1, 1, "b", true},
		{"from a place in between, with texts behind it", [][]string{{"a"}, none, {"c"}}, 1, 2, "c", true},
		{"from a place in between, with texts ahead of it alone", [][]string{{"a"}, {"b"}, none, none}, 2, 0, "a", true},
		{"from a place in between, with texts in the one ahead of it alone", [][]string{none, {"b", "x", "y"}, none, none}, 2, 1, "b", true},
		{"one box", [][]string{{"a"}}, 0, 0, "a", true},
		{"one box, that is empty", [][]string{none}, 0, 0, "", false},
		{"all empty, from the first place", [][]string{none, none, none}, 0, 0, "", false},
		{"all empty, from one in between", [][]string{none, none, none}, 1, 0, "", false},
		{"all empty, from the last one", [][]string{none, none, none}, 2, 0, "", false},
		{"no box", nil, 0, 0, "", false},
		{"no box, below 0", nil, -1, 0, "", false},
		{"no box, a place", nil, 1, 0, "", false},
		{"below 0", [][]string{{"a"}, {"b"}}, -1, 0, "", false},
		{"further below 0", [][]string{{"a"}, {"b"}}, -2, 0, "", false},
		{"as many as there are", [][]string{{"a"}, {"b"}}, 2, 0, "", false},
		{"one more than there are", [][]string{{"a"}, {"b"}}, 3, 0, "", false},
		{"twice as many as there are", [][]string{{"a"}, {"b"}}, 4, 0, "", false},
		{"the greatest number", [][]string{{"a"}, {"b"}}, math.MaxInt, 0, "", false},
		{"the least number", [][]string{{"a"}, {"b"}}, math.MinInt, 0, "", false},
		{"a number that is a place in 32 bits", [][]string{{"a"}, {"b"}}, 1 << 32, 0, "", false},
		{"an empty text is one", [][]string{none, {""}, {"c"}}, 0, 1, "", true},
		{"the same text in all", [][]string{{"a"}, {"a"}, {"a"}}, 1, 1, "a", true},
	} {
		l := row(t, x.texts...)
		at, s, is := mail.Turn(l, x.from)
		if at != x.at || s != x.s || is != x.is {
			t.Errorf("%s: %d, %q, %t, want %d, %q, %t", x.name, at, s, is, x.at, x.s, x.is)
		}
		for i, b := range l {
			want := x.texts[i]
			if x.is && i == x.at {
				want = want[1:]
			}
			has(t, x.name+", box "+strconv.Itoa(i), b, 3, want)
		}
	}
}

// P8.4: an empty list is as none.
func TestTurnOfEmptyList(t *testing.T) {
	for _, from := range []int{-1, 0, 1} {
		if at, s, is := mail.Turn([]*mail.Box{}, from); at != 0 || s != "" || is {
			t.Error(from, at, s, is)
		}
	}
}

// P8.4: every row of up to 5 boxes with or without texts, from every place, and beside them.
func TestTurnEveryRow(t *testing.T) {
	for n := range 6 {
		for bits := range 1 << n {
			for from := -1; from <= n+1; from++ {
				var texts [][]string
				for i := range n {
					var l []string
					if bits>>i&1 == 1 {
						l = []string{"box " + strconv.Itoa(i), "second"}
					}
					texts = append(texts, l)
				}
				l := row(t, texts...)
				at, s, is := mail.Turn(l, from)
				wantAt, want, wantIs := turnByWords(texts, from)
				if at != wantAt || s != want || is != wantIs {
					t.Fatalf("%d boxes, %b, from %d: %d, %q, %t, want %d, %q, %t", n, bits, from, at, s, is, wantAt, want, wantIs)
				}
				for i, b := range l {
					if wantIs && i == wantAt {
						has(t, "the one taken of", b, 3, texts[i][1:])
					} else {
						has(t, "another one", b, 3, texts[i])
					}
				}
			}
		}
	}
}

// turnByWords is Turn of boxes with these texts, as the document says it: the places from a place on, and then those from the beginning on.
func turnByWords(texts [][]string, from int) (int, string, bool) {
	if from < 0 || from >= len(texts) {
		return 0, "", false
	}
	var places []int
	for i := from; i < len(texts); i++ {
		places = append(places, i)
	}
	for i := 0; i < from; i++ {
		places = append(places, i)
	}
	for _, i := range places {
		if len(texts[i]) > 0 {
			return i, texts[i][0], true
		}
	}
	return 0, "", false
}

// P8.4: turn by turn, each from behind the place told last, all boxes come by turns, until none has one.
func TestTurnByTurn(t *testing.T) {
	l := row(t, []string{"a1", "a2", "a3"}, nil, []string{"c1"}, []string{"d1", "d2"})
	var got []string
	for from := 1; ; {
		at, s, is := mail.Turn(l, from)
		if !is {
			break
		}
		got = append(got, strconv.Itoa(at)+s)
		from = (at + 1) % len(l)
	}
	if want := []string{"2c1", "3d1", "0a1", "3d2", "0a2", "0a3"}; !slices.Equal(got, want) {
		t.Errorf("%q, want %q", got, want)
	}
}

// P8.4: a box may stand in the list more than once.
func TestTurnOfTheSameBox(t *testing.T) {
	b := box(t, 3, "a", "b")
	l := []*mail.Box{b, box(t, 1), b}
	for i, x := range []struct {
		from, at int
		s        string
	}{{1, 2, "a"}, {0, 0, "b"}} {
		if at, s, is := mail.Turn(l, x.from); at != x.at || s != x.s || !is {
			t.Error(i, at, s, is)
		}
	}
	if at, s, is := mail.Turn(l, 2); at != 0 || s != "" || is {
		t.Error(at, s, is)
	}
}

// P8.5: the same text, put more than once, is taken as often, at its places.
func TestSameTextTwice(t *testing.T) {
	texts := []string{"a", "a", "b", "a", "", "", "b", "b"}
	b := box(t, 8, texts...)
	has(t, "the same", b, 8, texts)
	for i, s := range texts {
		looks(t, "the same", b, 8, texts[i:])
		takes(t, "the same", b, s)
	}
	takesNone(t, "the same", b)
	full := box(t, 256, slices.Repeat([]string{"x"}, 256)...)
	if e := full.Put("x"); e != api.ErrFull {
		t.Error(e)
	}
	if l := full.All(); !slices.Equal(l, slices.Repeat([]string{"x"}, 256)) {
		t.Error(len(l))
	}
}

// P8.5: whatever is called in between, in any order: what was put and not refused comes out in its order, each once.
func TestInOrderOnce(t *testing.T) {
	r := rand.New(rand.NewSource(8))
	for range 300 {
		size := 1 + r.Intn(6)
		if r.Intn(10) == 0 {
			size = greatest
		}
		b := box(t, size)
		var put, taken []string
		for i := range 400 {
			switch r.Intn(8) {
			case 0, 1, 2:
				if s := strconv.Itoa(i); b.Put(s) == api.OK {
					put = append(put, s)
				}
			case 3, 4:
				if s, is := b.Take(); is {
					taken = append(taken, s)
				}
			case 5:
				b.First()
				b.Copy().Take()
			case 6:
				if _, s, is := mail.Turn([]*mail.Box{b}, 0); is {
					taken = append(taken, s)
				}
			case 7:
				if r.Intn(5) == 0 {
					taken = append(taken, b.All()...)
				}
			}
		}
		taken = append(taken, b.All()...)
		if !slices.Equal(put, taken) {
			t.Fatalf("size %d: put %q, taken %q", size, put, taken)
		}
	}
}

// plain is a box as the document's words have it: a size, and a row of texts.
type plain struct {
	size  int
	texts []string
}

func (p *plain) put(s string) api.Errno {
	if len(p.texts) == p.size {
		return api.ErrFull
	}
	p.texts = append(slices.Clone(p.texts), s)
	return api.OK
}

func (p *plain) take() (string, bool) {
	if len(p.texts) == 0 {
		return "", false
	}
	s := p.texts[0]
	p.texts = p.texts[1:]
	return s, true
}

// P8.1 to P8.5, R2, R5, R7: many boxes and their copies, held against plain ones, by chance.
func TestByChance(t *testing.T) {
	r := rand.New(rand.NewSource(88))
	for range 400 {
		boxes, plains := []*mail.Box{}, []*plain{}
		for range 1 + r.Intn(4) {
			size := 1 + r.Intn(4)
			boxes, plains = append(boxes, box(t, size)), append(plains, &plain{size: size})
		}
		for step := range 120 {
			i := r.Intn(len(boxes))
			b, p := boxes[i], plains[i]
			switch r.Intn(7) {
			case 0, 1, 2:
				s := strings.Repeat("s", r.Intn(2)) + strconv.Itoa(r.Intn(3))
				if got, want := b.Put(s), p.put(s); got != want {
					t.Fatalf("step %d: Put %d, want %d", step, got, want)
				}
			case 3:
				s, is := b.Take()
				if want, wantIs := p.take(); s != want || is != wantIs {
					t.Fatalf("step %d: Take %q, %t, want %q, %t", step, s, is, want, wantIs)
				}
			case 4:
				if len(boxes) < 6 {
					boxes, plains = append(boxes, b.Copy()), append(plains, &plain{p.size, slices.Clone(p.texts)})
				}
			case 5:
				turnBoth(t, boxes, plains, r.Intn(len(boxes)+4)-2)
			case 6:
				if r.Intn(4) == 0 {
					if got := b.All(); !slices.Equal(got, p.texts) {
						t.Fatalf("step %d: All %q, want %q", step, got, p.texts)
					}
					p.texts = nil
				}
			}
			for i := range boxes {
				looks(t, "by chance", boxes[i], plains[i].size, plains[i].texts)
			}
		}
		for i := range boxes {
			has(t, "by chance", boxes[i], plains[i].size, plains[i].texts)
		}
	}
}

// turnBoth holds a Turn of boxes against one of plain ones.
func turnBoth(t *testing.T, boxes []*mail.Box, plains []*plain, from int) {
	t.Helper()
	var texts [][]string
	for _, p := range plains {
		texts = append(texts, p.texts)
	}
	wantAt, want, wantIs := turnByWords(texts, from)
	if wantIs {
		plains[wantAt].take()
	}
	if at, s, is := mail.Turn(boxes, from); at != wantAt || s != want || is != wantIs {
		t.Fatalf("Turn from %d: %d, %q, %t, want %d, %q, %t", from, at, s, is, wantAt, want, wantIs)
	}
}

// R4: what is put is not kept: when its memory changes, the text in the box does not.
func TestPutKeepsNothing(t *testing.T) {
	bytes := []byte("abc")
	b := box(t, 2, unsafe.String(&bytes[0], len(bytes)))
	bytes[0] = 'x'
	has(t, "changed", b, 2, []string{"abc"})
}

// R4: what is answered is new memory: no text of an answer is where one is that was put, or told by another call, of the box or of a copy.
func TestAnswersAreNew(t *testing.T) {
	one, two := strings.Repeat("a", 40), strings.Repeat("b", 40)
	b := box(t, 3, one, two, one)
	c, d, e := b.Copy(), b.Copy(), b.Copy()
	texts := []string{one, two}
	tell := func(s string, is bool) {
		if !is {
			t.Fatal("none")
		}
		texts = append(texts, s)
	}
	for range 2 {
		tell(b.First())
		tell(c.First())
	}
	tell(b.Take())
	tell(c.Take())
	_, s, is := mail.Turn([]*mail.Box{d}, 0)
	tell(s, is)
	for _, x := range []*mail.Box{b, c, d, e} {
		texts = append(texts, x.All()...)
	}
	for i := range texts {
		for j := range i {
			if overlap(texts[i], texts[j]) || overlap(texts[j], texts[i]) {
				t.Errorf("texts %d and %d of %d share memory", j, i, len(texts))
			}
		}
	}
}

// R4: two answers of All share nothing, nor the room behind them, and the box has nothing of them.
func TestListsAreNew(t *testing.T) {
	b := box(t, 8, "a", "b", "c")
	c := b.Copy()
	l := b.All()
	for i := range l[:cap(l)] {
		l[:cap(l)][i] = "changed"
	}
	b.Put("d")
	m := b.All()
	for i := range m[:cap(m)] {
		m[:cap(m)][i] = "changed too"
	}
	if l[0] != "changed" || l[2] != "changed" {
		t.Error("two answers share memory", l)
	}
	has(t, "the box", b, 8, nil)
	has(t, "its copy", c, 8, []string{"a", "b", "c"})
}

// R4: the list that is handed to Turn, and the room behind it, stay as they were.
func TestTurnLeavesItsList(t *testing.T) {
	l := row(t, nil, []string{"b"}, []string{"c"}, []string{"d"})
	before := slices.Clone(l)
	mail.Turn(l[:2], 0)
	mail.Turn(l[:2], 1)
	mail.Turn(l[:2], 2)
	if !slices.Equal(l, before) {
		t.Error("changed")
	}
	has(t, "the one behind", l[2], 3, []string{"c"})
	has(t, "the one behind that", l[3], 3, []string{"d"})
}

func overlap(whole, s string) bool {
	at := uintptr(unsafe.Pointer(unsafe.StringData(s)))
	begin := uintptr(unsafe.Pointer(unsafe.StringData(whole)))
	return len(s) > 0 && begin <= at && at < begin+uintptr(len(whole))
}
