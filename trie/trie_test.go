package trie_test

import (
	"math"
	"math/rand"
	"reflect"
	"slices"
	"strings"
	"testing"

	"rivulet/api"
	"rivulet/topic"
	"rivulet/trie"
)

// ask is one filter, asked for by one.
type ask struct {
	filter string
	id     int
}

// notes is a trie in the document's own words: how often each asks for each filter, gone over as a whole for each answer.
type notes map[ask]int

func (m notes) may(filter string, id int) bool { return topic.Filter(filter) && id >= 0 }

func (m notes) Add(filter string, id int) (int, api.Errno) {
	if !m.may(filter, id) {
		return 0, api.ErrArg
	}
	m[ask{filter, id}]++
	return m[ask{filter, id}], api.OK
}

func (m notes) Drop(filter string, id int) (int, api.Errno) {
	if !m.may(filter, id) {
		return 0, api.ErrArg
	}
	if m[ask{filter, id}] == 0 {
		return 0, api.ErrNone
	}
	m[ask{filter, id}]--
	return m[ask{filter, id}], api.OK
}

func (m notes) Match(name string) []int {
	var out []int
	for a, n := range m {
		if n > 0 && topic.Match(a.filter, name) {
			out = append(out, a.id)
		}
	}
	slices.Sort(out)
	return slices.Compact(out)
}

func (m notes) Has(filter string, id int) int { return m[ask{filter, id}] }

func (m notes) filters(of func(int) bool) []string {
	var out []string
	for a, n := range m {
		if n > 0 && of(a.id) {
			out = append(out, a.filter)
		}
	}
	slices.SortFunc(out, order)
	return slices.Compact(out)
}

func (m notes) Of(id int) []string { return m.filters(func(i int) bool { return i == id }) }

func (m notes) All() []string { return m.filters(func(int) bool { return true }) }

func (m notes) Leave(id int) int {
	n := len(m.Of(id))
	for a := range m {
		if a.id == id {
			delete(m, a)
		}
	}
	return n
}

func (m notes) copy() notes {
	out := notes{}
	for a, n := range m {
		out[a] = n
	}
	return out
}

func order(a, b string) int {
	switch {
	case topic.Less(a, b):
		return -1
	case topic.Less(b, a):
		return 1
	}
	return 0
}

// world is what a trie is asked, so that its whole state shows.
type world struct {
	filters, topics []string
	ids             []int
}

// rows are all texts of levels out of names, with at most so many levels.
func rows(names []string, most int) []string {
	out, last := slices.Clone(names), names
	for range most - 1 {
		var next []string
		for _, s := range last {
			for _, name := range names {
				next = append(next, s+"/"+name)
			}
		}
		out, last = append(out, next...), next
	}
	return out
}

// filtersOf are all filters of at most so many levels, with names out of those.
func filtersOf(names []string, most int) []string {
	some := append(slices.Clone(names), "+")
	out := append(rows(some, most), "#")
	for _, s := range rows(some, most-1) {
		out = append(out, s+"/#")
	}
	return out
}

func worlds() []world {
	ids := []int{0, 1, 2, 7, math.MaxInt}
	return []world{
		{[]string{"#", "+", "a", "b", "a/#", "a/+", "+/#", "+/b"}, rows([]string{"a", "b", "c"}, 3), ids},
		{filtersOf([]string{"a", "a-", "b"}, 3), rows([]string{"a", "a-", "b", "c"}, 4), ids},
		{filtersOf([]string{"a"}, 8), rows([]string{"a", "b"}, 8), ids[:3]},
	}
}

var noFilters = []string{"", "/", "#/a", "a/#/b", "a//b", "a/", "/a", "A", "a+", "++", "a#", "##", "a b", "\xff", "é",
	strings.Repeat("a", 17), "a/a/a/a/a/a/a/a/a", "+/+/+/+/+/+/+/+/+", "+/+/+/+/+/+/+/+/#"}

var noTopics = append([]string{"+", "#", "a/+", "a/#", "+/b", "+/#"}, noFilters...)

// same holds a trie against the notes, in all that it tells.
func same(t *testing.T, w world, x *trie.Trie, m notes) {
	t.Helper()
	if got, want := x.All(), m.All(); !slices.Equal(got, want) {
		t.Fatalf("All: %q, not %q", got, want)
	}
	for _, id := range append([]int{-1, 99, math.MinInt}, w.ids...) {
		if got, want := x.Of(id), m.Of(id); !slices.Equal(got, want) {
			t.Fatalf("Of(%d): %q, not %q", id, got, want)
		}
		for _, f := range w.filters {
			if got, want := x.Has(f, id), m.Has(f, id); got != want {
				t.Fatalf("Has(%q, %d): %d, not %d", f, id, got, want)
			}
		}
	}
	for _, s := range w.topics {
		if got, want := x.Match(s), m.Match(s); !slices.Equal(got, want) {
			t.Fatalf("Match(%q): %d, not %d", s, got, want)
		}
	}
}

// add adds, or ends the test.
func add(t *testing.T, x *trie.Trie, filter string, id, want int) {
	t.Helper()
	if n, e := x.Add(filter, id); n != want || e != api.OK {
		t.Fatalf("Add(%q, %d): %d, %d; not %d, OK", filter, id, n, e, want)
	}
}

func drop(t *testing.T, x *trie.Trie, filter string, id, want int) {
	t.Helper()
	if n, e := x.Drop(filter, id); n != want || e != api.OK {
		t.Fatalf("Drop(%q, %d): %d, %d; not %d, OK", filter, id, n, e, want)
	}
}

// The document's own example.
func TestExample(t *testing.T) {
	x := trie.New()
	add(t, x, "a/+", 1, 1)
	add(t, x, "#", 2, 1)
	if l := x.Match("a/b"); !slices.Equal(l, []int{1, 2}) {
		t.Error(l)
	}
	if l := x.Match("a"); !slices.Equal(l, []int{2}) {
		t.Error(l)
	}
}

// P4.1: Add tells how often it is now, and Drop too: of one filter, of one that asks, apart from all others.
func TestAddAndDropCount(t *testing.T) {
	for _, f := range []string{"#", "+", "a", "a/b", "a/+", "a/#", "+/+/+/+/+/+/+/#", "a/a/a/a/a/a/a/a", strings.Repeat("z", 16)} {
		for _, id := range []int{0, 1, math.MaxInt} {
			x := trie.New()
			add(t, x, "b", id, 1)
			add(t, x, f, 5, 1)
			for n := 1; n <= 4; n++ {
				add(t, x, f, id, n)
			}
			for n := 3; n >= 0; n-- {
				if got := x.Has(f, id); got != n+1 {
					t.Errorf("Has(%q, %d): %d, not %d", f, id, got, n+1)
				}
				drop(t, x, f, id, n)
			}
			if n, e := x.Drop(f, id); n != 0 || e != api.ErrNone {
				t.Errorf("Drop(%q, %d) of what is not asked for: %d, %d", f, id, n, e)
			}
			if x.Has(f, id) != 0 || x.Has(f, 5) != 1 || x.Has("b", id) != 1 {
				t.Errorf("%q, %d: others are touched", f, id)
			}
			add(t, x, f, id, 1)
		}
	}
}

// P4.1, R2, R3: what is no filter, and an id below 0, is ErrArg, and nothing is changed by it.
func TestWrongArguments(t *testing.T) {
	x, m, w := trie.New(), notes{}, worlds()[0]
	for i, f := range w.filters {
		x.Add(f, i%3)
		m.Add(f, i%3)
	}
	wrong := func(filter string, id int) {
		t.Helper()
		if n, e := x.Add(filter, id); n != 0 || e != api.ErrArg {
			t.Errorf("Add(%q, %d): %d, %d", filter, id, n, e)
		}
		if n, e := x.Drop(filter, id); n != 0 || e != api.ErrArg {
			t.Errorf("Drop(%q, %d): %d, %d", filter, id, n, e)
		}
		if n := x.Has(filter, id); n != 0 {
			t.Errorf("Has(%q, %d): %d", filter, id, n)
		}
	}
	for _, f := range noFilters {
		wrong(f, 0)
		wrong(f, 1)
		wrong(f, -1)
	}
	for _, f := range w.filters {
		wrong(f, -1)
		wrong(f, math.MinInt)
	}
	wrong(strings.Repeat("a/", 1<<16)+"a", 1)
	same(t, w, x, m)
}

// P4.1, R2, R3: a filter that is not asked for can't be dropped: neither one of which nothing is known, nor one that
// another asks for, nor the first levels of one, nor one that lets the same by; and nothing is changed by it.
func TestDropOfWhatIsNotAskedFor(t *testing.T) {
	x, m := trie.New(), notes{}
	w := world{[]string{"a/b/c", "+/#", "#", "a", "a/b", "a/b/c/d", "a/b/#", "+", "a/+"}, rows([]string{"a", "b", "c"}, 4), []int{0, 1, 2}}
	for _, a := range []ask{{"a/b/c", 1}, {"+/#", 1}, {"a", 2}} {
		x.Add(a.filter, a.id)
		m.Add(a.filter, a.id)
	}
	for _, f := range w.filters {
		for _, id := range w.ids {
			if m.Has(f, id) > 0 {
				continue
			}
			if n, e := x.Drop(f, id); n != 0 || e != api.ErrNone {
				t.Errorf("Drop(%q, %d): %d, %d", f, id, n, e)
			}
		}
	}
	same(t, w, x, m)
	if n, e := trie.New().Drop("a", 0); n != 0 || e != api.ErrNone {
		t.Errorf("of an empty one: %d, %d", n, e)
	}
}

// P4.2: each filter by itself is asked for by one: Match tells that one just for the topics that it lets by.
func TestMatchOfOneFilter(t *testing.T) {
	for _, w := range worlds() {
		for _, f := range w.filters {
			x := trie.New()
			add(t, x, f, 3, 1)
			for _, s := range w.topics {
				if got := x.Match(s); slices.Equal(got, []int{3}) != topic.Match(f, s) || len(got) > 1 {
					t.Fatalf("%q: Match(%q): %d", f, s, got)
				}
			}
			if !slices.Equal(x.Of(3), []string{f}) || !slices.Equal(x.All(), []string{f}) || x.Of(0) != nil {
				t.Fatalf("%q: %q, %q", f, x.Of(3), x.All())
			}
		}
	}
}

// P4.2: who asks for all filters at once is told once, and all who ask for one are told in order, whatever their ids.
func TestMatchTellsEachOnceInOrder(t *testing.T) {
	for _, w := range worlds() {
		x, m := trie.New(), notes{}
		for i, f := range w.filters {
			for _, id := range []int{math.MaxInt, 0, 1000 - i, 2000 + i} {
				x.Add(f, id)
				m.Add(f, id)
			}
		}
		for i := 0; i < len(w.topics); i += 1 + len(w.topics)/40 {
			if got, want := x.Match(w.topics[i]), m.Match(w.topics[i]); !slices.Equal(got, want) {
				t.Fatalf("Match(%q): %d, not %d", w.topics[i], got, want)
			}
		}
	}
}

// P4.2: at 8 levels, the most that there are, + and # stand beside names.
func TestMatchAtEightLevels(t *testing.T) {
	x := trie.New()
	for id, f := range []string{"a/b/c/d/e/f/g/h", "+/+/+/+/+/+/+/+", "+/+/+/+/+/+/+/#", "a/b/c/d/e/f/g/+", "a/b/c/d/e/f/g/#", "a/b/c/d/e/f/g", "#", "+", "+/#", "a/b/c/d/e/f/#", "+/b/c/d/e/f/g/h"} {
		add(t, x, f, id, 1)
	}
	for s, want := range map[string][]int{
		"a/b/c/d/e/f/g/h":   {0, 1, 2, 3, 4, 6, 8, 9, 10},
		"a/b/c/d/e/f/g/x":   {1, 2, 3, 4, 6, 8, 9},
		"x/b/c/d/e/f/g/h":   {1, 2, 6, 8, 10},
		"a/b/c/d/e/f/g":     {2, 4, 5, 6, 8, 9},
		"a/b/c/d/e/f":       {6, 8, 9},
		"a":                 {6, 7, 8},
		"a/b/c/d/e/f/g/h/i": nil,
	} {
		if got := x.Match(s); !slices.Equal(got, want) {
			t.Errorf("Match(%q): %d, not %d", s, got, want)
		}
	}
}

// P4.2: a topic that is none is asked for by nobody, also if its very text is asked for as a filter.
func TestMatchOfWhatIsNoTopic(t *testing.T) {
	x := trie.New()
	for i, f := range filtersOf([]string{"a", "b"}, 3) {
		add(t, x, f, i, 1)
	}
	for _, s := range append([]string{strings.Repeat("a/", 1<<16) + "a"}, noTopics...) {
		if got := x.Match(s); got != nil {
			t.Errorf("Match(%q): %d", s, got)
		}
	}
}

// P4.2: filters are told level by level, not as bare texts, and each once, whoever asks and however often.
func TestFiltersAreInOrder(t *testing.T) {
	want := []string{"#", "+", "+/#", "+/b", "-", "a", "a/#", "a/+", "a/b", "a/b/c", "a-", "a-/b", "a0", "ab", "b", "z", "zz"}
	if !slices.IsSortedFunc(want, order) {
		t.Fatal("the test's own order")
	}
	random := rand.New(rand.NewSource(4))
	for range 50 {
		x := trie.New()
		for _, i := range random.Perm(3 * len(want)) {
			x.Add(want[i%len(want)], i%2)
			x.Add(want[i%len(want)], 2)
		}
		for id := range 3 {
			if got := x.Of(id); !slices.Equal(got, want) {
				t.Fatalf("Of(%d): %q", id, got)
			}
		}
		if got := x.All(); !slices.Equal(got, want) {
			t.Fatalf("All: %q", got)
		}
	}
}

// P4.3: who leaves is told nowhere any more, and the others are as before; who has asked for nothing leaves nothing.
func TestLeave(t *testing.T) {
	for _, w := range worlds() {
		x, m := trie.New(), notes{}
		for i, f := range w.filters {
			for k := range i % 4 {
				x.Add(f, w.ids[k%len(w.ids)])
				m.Add(f, w.ids[k%len(w.ids)])
				x.Add(f, w.ids[0])
				m.Add(f, w.ids[0])
			}
		}
		for _, id := range []int{99, -1, math.MinInt} {
			if n := x.Leave(id); n != 0 {
				t.Errorf("Leave(%d): %d", id, n)
			}
		}
		for _, id := range w.ids {
			if got, want := x.Leave(id), m.Leave(id); got != want {
				t.Fatalf("Leave(%d): %d, not %d", id, got, want)
			}
			if len(w.topics) < 200 {
				same(t, w, x, m)
			}
			if n := x.Leave(id); n != 0 {
				t.Errorf("Leave(%d) again: %d", id, n)
			}
		}
		if !reflect.DeepEqual(x, trie.New()) {
			t.Error("all have left, and something is kept")
		}
	}
	if n := trie.New().Leave(0); n != 0 {
		t.Errorf("of an empty one: %d", n)
	}
}

// P4.1, P4.4: a trie of which nobody asks any more is as a new one, in what it tells and in what it keeps.
func TestNobodyAsksAnyMore(t *testing.T) {
	random := rand.New(rand.NewSource(41))
	for _, w := range worlds() {
		x := trie.New()
		for range 3 {
			var asks []ask
			for i := range 3 * len(w.filters) {
				asks = append(asks, ask{w.filters[i%len(w.filters)], w.ids[random.Intn(len(w.ids))]})
			}
			for _, a := range asks {
				x.Add(a.filter, a.id)
			}
			for _, i := range random.Perm(len(asks)) {
				if n, e := x.Drop(asks[i].filter, asks[i].id); n < 0 || e != api.OK {
					t.Fatal(asks[i], n, e)
				}
			}
			if x.All() != nil || x.Of(0) != nil || x.Match("a") != nil {
				t.Fatalf("%q, %q, %d", x.All(), x.Of(0), x.Match("a"))
			}
			if !reflect.DeepEqual(x, trie.New()) {
				t.Fatal("something is kept")
			}
		}
	}
}

// works is what changes a trie, or the notes.
type works interface {
	Add(string, int) (int, api.Errno)
	Drop(string, int) (int, api.Errno)
	Leave(int) int
}

// P4.3, R7: a copy tells what its original tells, and each goes its own way from then on.
func TestCopy(t *testing.T) {
	w := worlds()[0]
	x, m := trie.New(), notes{}
	for i, f := range w.filters {
		x.Add(f, i%3)
		m.Add(f, i%3)
		x.Add(f, 0)
		m.Add(f, 0)
	}
	for _, change := range []func(works){
		func(y works) { y.Add("a", 7) },
		func(y works) { y.Add("a", 0) },
		func(y works) { y.Add("c/c/c", 0) },
		func(y works) { y.Drop("a/+", 0) },
		func(y works) { y.Drop("#", 0); y.Drop("#", 0) },
		func(y works) { y.Leave(0) },
		func(y works) { y.Leave(0); y.Leave(1); y.Leave(2) },
	} {
		old, oldNotes := x.Copy(), m.copy()
		young, youngNotes := old.Copy(), m.copy()
		same(t, w, young, youngNotes)
		change(young)
		change(youngNotes)
		same(t, w, young, youngNotes)
		same(t, w, old, oldNotes)
		young, youngNotes = old.Copy(), oldNotes.copy()
		change(old)
		change(oldNotes)
		same(t, w, old, oldNotes)
		same(t, w, young, youngNotes)
	}
	empty := trie.New().Copy()
	if empty.All() != nil {
		t.Error(empty.All())
	}
	add(t, empty, "a", 0, 1)
}

// R4: what is answered is its owner's: to change it, also in its spare room, changes neither the trie nor other answers.
func TestAnswersAreNew(t *testing.T) {
	w := worlds()[0]
	x, m := trie.New(), notes{}
	for i, f := range w.filters {
		x.Add(f, i%3)
		m.Add(f, i%3)
	}
	other := x.Copy()
	all, of, match := x.All(), x.Of(1), x.Match("a/b")
	for range 2 {
		for _, l := range [][]string{x.All(), x.Of(1)} {
			l = l[:cap(l)]
			for i := range l {
				l[i] = "spoilt"
			}
		}
		l := x.Match("a/b")
		l = l[:cap(l)]
		for i := range l {
			l[i] = -7
		}
	}
	if !slices.Equal(all, m.All()) || !slices.Equal(of, m.Of(1)) || !slices.Equal(match, m.Match("a/b")) {
		t.Error(all, of, match)
	}
	same(t, w, x, m)
	same(t, w, other, m)
}

// P4.4: in which order was asked makes no difference: all orders of a few askings, and many of many.
func TestOrderOfAsking(t *testing.T) {
	w := worlds()[0]
	asks := []ask{{"a/+", 1}, {"#", 2}, {"a/+", 2}, {"a", 0}, {"a/+", 1}}
	m := notes{}
	for _, a := range asks {
		m.Add(a.filter, a.id)
	}
	var orders func(done, left []ask)
	orders = func(done, left []ask) {
		if len(left) > 0 {
			for i := range left {
				rest := slices.Delete(slices.Clone(left), i, i+1)
				orders(append(slices.Clone(done), left[i]), rest)
			}
			return
		}
		x := trie.New()
		for _, a := range done {
			x.Add(a.filter, a.id)
		}
		same(t, w, x, m)
	}
	orders(nil, asks)
	random := rand.New(rand.NewSource(44))
	w = worlds()[1]
	first := trie.New()
	for _, f := range w.filters {
		first.Add(f, len(f)%3)
	}
	for range 20 {
		x := trie.New()
		for _, i := range random.Perm(len(w.filters)) {
			x.Add(w.filters[i], 2)
			x.Add(w.filters[i], len(w.filters[i])%3)
			x.Drop(w.filters[i], 2)
		}
		if !reflect.DeepEqual(x, first) {
			t.Fatal("another one")
		}
	}
}

// P4.1 to P4.4: long rows of calls, by chance, each answer held against the notes.
func TestLongRows(t *testing.T) {
	random := rand.New(rand.NewSource(40))
	for _, w := range worlds()[:2] {
		for range 30 {
			row(t, random, w)
		}
	}
}

func row(t *testing.T, random *rand.Rand, w world) {
	x, m := trie.New(), notes{}
	few := w.filters
	if len(few) > 12 {
		at := random.Intn(len(few) - 12)
		few = few[at : at+12]
	}
	for range 150 {
		f, id := few[random.Intn(len(few))], w.ids[random.Intn(len(w.ids))]
		switch k := random.Intn(20); {
		case k < 9:
			n, e := x.Add(f, id)
			if wantN, wantE := m.Add(f, id); n != wantN || e != wantE {
				t.Fatalf("Add(%q, %d): %d, %d; not %d, %d", f, id, n, e, wantN, wantE)
			}
		case k < 18:
			n, e := x.Drop(f, id)
			if wantN, wantE := m.Drop(f, id); n != wantN || e != wantE {
				t.Fatalf("Drop(%q, %d): %d, %d; not %d, %d", f, id, n, e, wantN, wantE)
			}
		case k < 19:
			if n, want := x.Leave(id), m.Leave(id); n != want {
				t.Fatalf("Leave(%d): %d, not %d", id, n, want)
			}
		default:
			x = x.Copy()
		}
		s := w.topics[random.Intn(len(w.topics))]
		if got, want := x.Match(s), m.Match(s); !slices.Equal(got, want) {
			t.Fatalf("Match(%q): %d, not %d", s, got, want)
		}
	}
	same(t, w, x, m)
}
