package cover_test

import (
	"math/rand"
	"slices"
	"strings"
	"testing"
	"unsafe"

	"rivulet/cover"
	"rivulet/topic"
)

// rows are all texts of levels out of names, with at most so many levels.
func rows(names []string, most int) []string {
	out, last := slices.Clone(names), names
	for range most - 1 {
		var next []string
		for _, s := range last {
			for _, name := range names {
				next = append(next, s+"/"+name)
			}
		}
		out, last = append(out, next...), next
	}
	return out
}

// filtersOf are all filters of at most so many levels, with names out of those.
func filtersOf(names []string, most int) []string {
	some := append(slices.Clone(names), "+")
	out := append(rows(some, most), "#")
	for _, s := range rows(some, most-1) {
		out = append(out, s+"/#")
	}
	return out
}

// world is filters, and topics enough to tell them apart: such that no filter names, and such with more levels.
type world struct {
	filters, topics []string
}

func worlds() []world {
	return []world{
		{[]string{"#", "+/#", "+", "a", "a/b", "a/+", "+/b", "a/#", "+/+/#"}, rows([]string{"a", "b", "c"}, 3)},
		{filtersOf([]string{"a", "a-", "b"}, 3), rows([]string{"a", "a-", "b", "c"}, 4)},
		{filtersOf([]string{"a"}, 8), rows([]string{"a", "b"}, 8)},
	}
}

var noFilters = []string{"", "/", "??", "#/a", "a/#/b", "a//b", "a/", "/a", "A", "a+", "++", "a#", "##", "a b", "\xff", "é",
	strings.Repeat("a", 17), "a/a/a/a/a/a/a/a/a", "+/+/+/+/+/+/+/+/+", "+/+/+/+/+/+/+/+/#"}

var noTopics = append([]string{"+", "#", "a/+", "a/#", "+/b", "+/#"}, noFilters...)

func order(a, b string) int {
	switch {
	case topic.Less(a, b):
		return -1
	case topic.Less(b, a):
		return 1
	}
	return 0
}

// sorted are the filters of some texts, each once, in order.
func sorted(l []string) []string {
	var out []string
	for _, s := range l {
		if topic.Filter(s) && !slices.Contains(out, s) {
			out = append(out, s)
		}
	}
	slices.SortFunc(out, order)
	return out
}

// least is P5.1 in its own words.
func least(l []string) []string {
	all := sorted(l)
	var out []string
	for _, f := range all {
		covered := slices.ContainsFunc(all, func(g string) bool {
			both := topic.Covers(f, g) && topic.Covers(g, f)
			return f != g && topic.Covers(g, f) && !(both && topic.Less(f, g))
		})
		if !covered {
			out = append(out, f)
		}
	}
	return out
}

// without are the filters of l that are not in m, each once, in order.
func without(l, m []string) []string {
	var out []string
	for _, f := range sorted(l) {
		if !slices.Contains(m, f) {
			out = append(out, f)
		}
	}
	return out
}

// some are so many texts by chance: most of them filters of a world, some of them twice, some of them none.
func some(random *rand.Rand, w world, n int) []string {
	var out []string
	for range n {
		switch k := random.Intn(10); {
		case k == 0:
			out = append(out, noFilters[random.Intn(len(noFilters))])
		case k == 1 && len(out) > 0:
			out = append(out, out[random.Intn(len(out))])
		default:
			out = append(out, w.filters[random.Intn(len(w.filters))])
		}
	}
	return out
}

// orders hands a list on in each of its orders.
func orders(l []string, see func([]string)) {
	var next func(done, left []string)
	next = func(done, left []string) {
		if len(left) == 0 {
			see(done)
		}
		for i := range left {
			next(append(slices.Clone(done), left[i]), slices.Delete(slices.Clone(left), i, i+1))
		}
	}
	next(nil, l)
}

// list makes a list of a text of filters between blanks.
func list(s string) []string { return strings.Fields(s) }

func wantLeast(t *testing.T, l, want []string) {
	t.Helper()
	if got := cover.Least(l); !slices.Equal(got, want) {
		t.Fatalf("Least(%q): %q, not %q", l, got, want)
	}
}

// The document's own examples.
func TestExamples(t *testing.T) {
	wantLeast(t, list("a/b a/+ c"), list("a/+ c"))
	come, gone := cover.Diff(list("a"), list("b"))
	if !slices.Equal(come, list("b")) || !slices.Equal(gone, list("a")) {
		t.Error(come, gone)
	}
}

// P5.1, P5.4: none, one, the same more than once, two that cover each other, one that covers all, chains, and such that
// meet without covering; each in all its orders.
func TestLeast(t *testing.T) {
	for _, x := range []struct{ l, want string }{
		{"", ""},
		{"a", "a"}, {"+", "+"}, {"#", "#"}, {"+/#", "+/#"}, {"a/+/#", "a/+/#"},
		{"a a a", "a"}, {"# #", "#"}, {"+/# +/# +/#", "+/#"}, {"b a b a", "a b"},
		{"# +/#", "#"}, {"# +/# # +/#", "#"}, {"a +/# #", "#"}, {"+/+/# +/# + a", "+/#"}, {"+/# a b/c", "+/#"},
		{"# a + b/c a/#", "#"},
		{"a/b/c a/b/+ a/+/+ +/+/+", "+/+/+"}, {"a/b/c a/b/# a/# +/# #", "#"}, {"a a/# +/#", "+/#"}, {"a/b a/b/# a/+/#", "a/+/#"},
		{"a/b a/+ +/b", "+/b a/+"}, {"a/+ +/b", "+/b a/+"}, {"a/# +", "+ a/#"}, {"+/+/# a a/b", "+/+/# a"}, {"a a/b a/b/c", "a a/b a/b/c"},
		{"a/# a", "a/#"}, {"a/# a-", "a/# a-"}, {"a/b a- a b", "a a/b a- b"}, {"a10 a9 a1 _ -", "- _ a1 a10 a9"},
		{"+/+/+/+/+/+/+/# +/+/+/+/+/+/+ +/+/+/+/+/+/+/+", "+/+/+/+/+/+/+/#"},
		{"+/+/+/+/+/+/+ +/+/+/+/+/+/+/+", "+/+/+/+/+/+/+ +/+/+/+/+/+/+/+"},
	} {
		orders(list(x.l), func(l []string) { wantLeast(t, l, list(x.want)) })
	}
}

// P5.1: what is no filter does not count, wherever it stands, and however long it is.
func TestLeastOfNoFilters(t *testing.T) {
	wantLeast(t, noFilters, nil)
	for _, s := range noFilters {
		wantLeast(t, []string{s}, nil)
		wantLeast(t, []string{s, "b", s, "a/b", "a/+", s}, list("a/+ b"))
	}
	wantLeast(t, []string{strings.Repeat("a/", 1<<16) + "a", "a"}, list("a"))
}

// P5.1, P5.4: all parts of a small world, each held against the document's words and in what it lets by.
func TestLeastOfAllParts(t *testing.T) {
	w := worlds()[0]
	for bits := range 1 << len(w.filters) {
		var l []string
		for i, f := range w.filters {
			if bits>>i&1 == 1 {
				l = append(l, f)
			}
		}
		follows(t, w, l)
	}
}

// P5.1, P5.4: many lists by chance, with what is no filter among others.
func TestLeastOfMany(t *testing.T) {
	random := rand.New(rand.NewSource(50))
	for _, w := range worlds() {
		for range 60 {
			follows(t, w, some(random, w, random.Intn(14)))
		}
		follows(t, w, w.filters)
	}
}

// follows holds Least against the document's words, and looks at all that P5.4 says of it.
func follows(t *testing.T, w world, l []string) {
	t.Helper()
	got := cover.Least(l)
	if want := least(l); !slices.Equal(got, want) {
		t.Fatalf("Least(%q): %q, not %q", l, got, want)
	}
	for i, a := range got {
		for j, b := range got {
			if i != j && topic.Covers(a, b) {
				t.Fatalf("Least(%q): %q covers %q", l, a, b)
			}
		}
	}
	wantLeast(t, got, got)
	for _, s := range w.topics {
		lets := slices.ContainsFunc(l, func(f string) bool { return topic.Match(f, s) })
		if cover.Lets(got, s) != lets || cover.Lets(l, s) != lets {
			t.Fatalf("%q, topic %q: it should be %t", l, s, lets)
		}
	}
	turned := slices.Clone(l)
	slices.Reverse(turned)
	wantLeast(t, turned, got)
	wantLeast(t, append(turned, l...), got)
}

// P5.2: Lets, of the first, of one in the middle, of the last one, of several, and of none.
func TestLets(t *testing.T) {
	l := list("a/+ b c/#")
	for s, want := range map[string]bool{
		"a/x": true, "b": true, "c": true, "c/d": true, "c/d/e/f/g/h/i/j": true,
		"a": false, "a/x/y": false, "b/c": false, "d": false, "a-": false, "c-": false,
	} {
		if cover.Lets(l, s) != want {
			t.Errorf("Lets(%q, %q): not %t", l, s, want)
		}
	}
	for _, s := range list("a a/b a/b/c/d/e/f/g/h") {
		if cover.Lets(nil, s) || cover.Lets([]string{}, s) || cover.Lets(noFilters, s) {
			t.Errorf("%q is let by by nothing", s)
		}
		if !cover.Lets(list("# #"), s) || !cover.Lets([]string{"", "??", "#"}, s) {
			t.Errorf("%q is not let by by #", s)
		}
	}
	for _, s := range noTopics {
		if cover.Lets([]string{"#", "+", s, "a/#"}, s) {
			t.Errorf("%q is no topic", s)
		}
	}
}

// P5.2: Holds, by one of them; what two let by only together, none of them covers.
func TestHolds(t *testing.T) {
	l := list("a/+ b c/#")
	for f, want := range map[string]bool{
		"a/+": true, "a/b": true, "b": true, "c": true, "c/#": true, "c/+": true, "c/+/d/#": true,
		"a": false, "a/#": false, "+": false, "#": false, "+/b": false, "b/#": false, "a/+/+": false,
	} {
		if cover.Holds(l, f) != want {
			t.Errorf("Holds(%q, %q): not %t", l, f, want)
		}
	}
	if cover.Holds(list("+ +/+/#"), "#") || cover.Holds(list("a a/+/#"), "a/#") {
		t.Error("held by two together")
	}
	if !cover.Holds(list("+/#"), "#") || !cover.Holds(list("#"), "+/#") {
		t.Error("# and +/# cover each other")
	}
	if cover.Holds(nil, "a") || cover.Holds([]string{}, "#") || cover.Holds(noFilters, "a") || !cover.Holds([]string{"??", "", "a"}, "a") {
		t.Error("no filter among others")
	}
	for _, s := range noFilters {
		if cover.Holds([]string{"#", s, "a/#"}, s) {
			t.Errorf("%q is no filter", s)
		}
	}
}

// P5.2: lists by chance, each held against topic's own answers; and what a list holds its Least holds.
func TestLetsAndHoldsOfMany(t *testing.T) {
	random := rand.New(rand.NewSource(52))
	for _, w := range worlds()[:2] {
		for range 40 {
			l := some(random, w, random.Intn(6))
			for _, f := range append(slices.Clone(w.filters), noFilters...) {
				want := slices.ContainsFunc(l, func(g string) bool { return topic.Covers(g, f) })
				if cover.Holds(l, f) != want || cover.Holds(cover.Least(l), f) != want {
					t.Fatalf("Holds(%q, %q): not %t", l, f, want)
				}
			}
		}
	}
}

func wantDiff(t *testing.T, old, now, come, gone []string) {
	t.Helper()
	a, b := cover.Diff(old, now)
	if !slices.Equal(a, come) || !slices.Equal(b, gone) {
		t.Fatalf("Diff(%q, %q): %q, %q; not %q, %q", old, now, a, b, come, gone)
	}
}

// P5.3: Diff, by the texts: the same, one of them empty, the same more than once, another order, and filters that cover
// each other, which makes no difference here.
func TestDiff(t *testing.T) {
	for _, x := range []struct{ old, now, come, gone string }{
		{"", "", "", ""}, {"a", "a", "", ""}, {"", "a", "a", ""}, {"a", "", "", "a"},
		{"b a", "a b", "", ""}, {"a a", "a", "", ""}, {"a", "a a a", "", ""}, {"c b a b", "", "", "a b c"}, {"", "c b a b", "a b c", ""},
		{"a b c", "c d e", "d e", "a b"}, {"c a a", "b c d b", "b d", "a"},
		{"a/b", "a/+", "a/+", "a/b"}, {"#", "a b", "a b", "#"}, {"a", "# a", "#", ""}, {"# a", "#", "", "a"},
		{"#", "+/#", "+/#", "#"}, {"# +/#", "+/#", "", "#"}, {"", "+/# #", "# +/#", ""},
		{"", "a- a/b b a", "a a/b a- b", ""}, {"a- a/b b a", "", "", "a a/b a- b"},
	} {
		wantDiff(t, list(x.old), list(x.now), list(x.come), list(x.gone))
	}
}

// P5.3: what is no filter neither comes nor goes, whether the other one has it or not.
func TestDiffOfNoFilters(t *testing.T) {
	wantDiff(t, noFilters, nil, nil, nil)
	wantDiff(t, nil, noFilters, nil, nil)
	wantDiff(t, noFilters, noFilters, nil, nil)
	for _, s := range noFilters {
		wantDiff(t, []string{s, "a", "b"}, []string{"b", s, "c"}, list("c"), list("a"))
		wantDiff(t, []string{s, "a", s}, []string{"c"}, list("c"), list("a"))
		wantDiff(t, []string{"a"}, []string{s, "c", s}, list("c"), list("a"))
	}
}

// P5.3: lists by chance; from old, what comes and goes leads to now; and the other way round both are changed over.
func TestDiffOfMany(t *testing.T) {
	random := rand.New(rand.NewSource(53))
	for _, w := range worlds() {
		few := world{filters: w.filters[:8]}
		for range 150 {
			old, now := some(random, few, random.Intn(9)), some(random, few, random.Intn(9))
			come, gone := without(now, old), without(old, now)
			wantDiff(t, old, now, come, gone)
			wantDiff(t, now, old, gone, come)
			wantDiff(t, old, old, nil, nil)
			if got := sorted(append(without(old, gone), come...)); !slices.Equal(got, sorted(now)) {
				t.Fatalf("%q to %q: %q", old, now, got)
			}
		}
	}
}

func wantJoin(t *testing.T, a, b, want []string) {
	t.Helper()
	if got := cover.Join(a, b); !slices.Equal(got, want) {
		t.Fatalf("Join(%q, %q): %q, not %q", a, b, got, want)
	}
}

// P5.3, P5.4: Join, in either order; one of them empty; the same; what is no filter among others.
func TestJoin(t *testing.T) {
	for _, x := range []struct{ a, b, want string }{
		{"", "", ""}, {"a", "", "a"}, {"a", "a", "a"}, {"a", "b", "a b"}, {"a/b c", "a/+", "a/+ c"}, {"a/+ +/b", "a/b", "+/b a/+"},
		{"#", "+/#", "#"}, {"#", "a b c", "#"}, {"a b", "a/# c", "a/# b c"}, {"b a/b a/+", "", "a/+ b"}, {"?? a", "A b", "a b"}, {"??", "A", ""},
	} {
		wantJoin(t, list(x.a), list(x.b), list(x.want))
		wantJoin(t, list(x.b), list(x.a), list(x.want))
	}
}

// P5.3, P5.4: lists by chance, joined in either order, each with itself, and three of them in any grouping.
func TestJoinOfMany(t *testing.T) {
	random := rand.New(rand.NewSource(54))
	for _, w := range worlds() {
		for range 80 {
			a, b, c := some(random, w, random.Intn(7)), some(random, w, random.Intn(7)), some(random, w, random.Intn(7))
			both := least(slices.Concat(a, b))
			wantJoin(t, a, b, both)
			wantJoin(t, b, a, both)
			wantJoin(t, a, a, least(a))
			wantJoin(t, both, a, both)
			wantJoin(t, cover.Least(a), cover.Least(b), both)
			all := least(slices.Concat(a, b, c))
			wantJoin(t, both, c, all)
			wantJoin(t, a, cover.Join(b, c), all)
			wantJoin(t, cover.Join(a, c), b, all)
		}
	}
}

// R3: a nil list and an empty one are the same.
func TestNilAndEmpty(t *testing.T) {
	empty := []string{}
	wantLeast(t, nil, empty)
	wantLeast(t, empty, nil)
	for _, a := range [][]string{nil, empty} {
		for _, b := range [][]string{nil, empty} {
			wantJoin(t, a, b, nil)
			wantDiff(t, a, b, nil, nil)
		}
		wantJoin(t, a, list("a"), list("a"))
		wantJoin(t, list("a"), a, list("a"))
	}
}

// roomy is a list with spare room behind it, in which something stands.
func roomy(l []string) []string {
	room := append(slices.Clone(l), "behind", "it")
	return room[:len(l)]
}

// R4: lists that are handed in, and the room behind them, are left as they were.
func TestHandedInIsLeft(t *testing.T) {
	now, old := list("c a/b ?? a/+ c # +/#"), list("d c d a A")
	a, b := roomy(now), roomy(old)
	cover.Least(a)
	cover.Lets(a, "c")
	cover.Holds(a, "a/b")
	cover.Diff(a, b)
	cover.Diff(b, a)
	cover.Join(a, b)
	cover.Join(b, a)
	cover.Join(a, a)
	if want := append(now, "behind", "it"); !slices.Equal(a[:len(want)], want) {
		t.Error(a[:len(want)])
	}
	if want := append(old, "behind", "it"); !slices.Equal(b[:len(want)], want) {
		t.Error(b[:len(want)])
	}
}

// spoil changes an answer, its spare room too.
func spoil(l []string) {
	l = l[:cap(l)]
	for i := range l {
		l[i] = "spoilt"
	}
}

// R4: an answer is its owner's: to change it changes neither what was handed in, nor another answer, nor the other list of
// the same one.
func TestAnswersAreNew(t *testing.T) {
	handed := list("a b c/d")
	l := roomy(handed)
	first := cover.Least(l)
	spoil(cover.Least(l))
	spoil(cover.Join(l, nil))
	spoil(cover.Join(nil, l))
	come, gone := cover.Diff(list("e f"), l)
	spoil(come)
	if !slices.Equal(gone, list("e f")) {
		t.Error(gone)
	}
	come, gone = cover.Diff(l, list("e f"))
	spoil(gone)
	if !slices.Equal(come, list("e f")) {
		t.Error(come)
	}
	if !slices.Equal(l, handed) || !slices.Equal(first, handed) || l[:4][3] != "behind" {
		t.Error(l[:5], first)
	}
	wantLeast(t, l, handed)
}

// R4: the texts that are answered are new memory, too: none is a piece of what was handed in.
func TestTextsAreNew(t *testing.T) {
	whole := "a/b/c/d/e/f"
	l, other := []string{whole[:1], whole[2:5], whole[6:11]}, []string{whole[4:5]}
	come, gone := cover.Diff(l, other)
	back, forth := cover.Diff(other, l)
	for _, s := range slices.Concat(cover.Least(l), cover.Join(l, other), come, gone, back, forth) {
		if overlap(whole, s) {
			t.Errorf("%q is a piece of %q", s, whole)
		}
	}
}

func overlap(whole, s string) bool {
	at := uintptr(unsafe.Pointer(unsafe.StringData(s)))
	begin := uintptr(unsafe.Pointer(unsafe.StringData(whole)))
	return len(s) > 0 && begin <= at && at < begin+uintptr(len(whole))
}
