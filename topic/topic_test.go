package topic_test

import (
	"math/rand"
	"regexp"
	"slices"
	"strings"
	"testing"

	"rivulet/topic"
)

var (
	topicForm  = regexp.MustCompile(`^[a-z0-9_-]{1,16}(/[a-z0-9_-]{1,16}){0,7}$`)
	filterForm = regexp.MustCompile(`^([a-z0-9_-]{1,16}|[+])(/([a-z0-9_-]{1,16}|[+])){0,7}$`)
)

// isFilter tells a filter by the form: one without #, or such a one of at most 7 levels with # behind it, or # alone.
func isFilter(s string) bool {
	if s == "#" || filterForm.MatchString(s) {
		return true
	}
	head, found := strings.CutSuffix(s, "/#")
	return found && filterForm.MatchString(head) && strings.Count(head, "/") < 7
}

// letsBy is a filter's letting by in the document's own words.
func letsBy(filter, levels []string) bool {
	if len(filter) == 0 {
		return len(levels) == 0
	}
	if filter[0] == "#" {
		return true
	}
	return len(levels) > 0 && (filter[0] == "+" || filter[0] == levels[0]) && letsBy(filter[1:], levels[1:])
}

// rows are all texts of levels out of names, with at most so many levels.
func rows(names []string, most int) []string {
	out, last := slices.Clone(names), names
	for range most - 1 {
		var next []string
		for _, s := range last {
			for _, name := range names {
				next = append(next, s+"/"+name)
			}
		}
		out, last = append(out, next...), next
	}
	return out
}

// filtersOf are all filters of at most so many levels, with names out of those.
func filtersOf(names []string, most int) []string {
	some := append(slices.Clone(names), "+")
	out := append(rows(some, most), "#")
	for _, s := range rows(some, most-1) {
		out = append(out, s+"/#")
	}
	return out
}

// wood is filters, and topics, so that what filters do to topics shows by these alone: there are topics with a name that no filter has, and with more levels than any filter, if there can be such.
type wood struct {
	filters, topics []string
}

func woods() []wood {
	return []wood{
		{filtersOf([]string{"a"}, 8), rows([]string{"a", "z"}, 8)},
		{filtersOf([]string{"a", "b"}, 4), rows([]string{"a", "b", "z"}, 5)},
		{filtersOf([]string{"a", "ab", "b"}, 3), rows([]string{"a", "ab", "b", "z"}, 4)},
	}
}

// set has a number's bit set if it is in it.
type set []uint64

func makeSet(size int, in func(int) bool) set {
	out := make(set, size/64+1)
	for i := range size {
		if in(i) {
			out[i/64] |= 1 << (i % 64)
		}
	}
	return out
}

func (s set) has(i int) bool {
	return s[i/64]>>(i%64)&1 == 1
}

func (s set) holds(other set) bool {
	for i := range s {
		if other[i]&^s[i] != 0 {
			return false
		}
	}
	return true
}

func (s set) touches(other set) bool {
	for i := range s {
		if other[i]&s[i] != 0 {
			return true
		}
	}
	return false
}

// letBy are, for each filter of a wood, the topics that it lets by, in the document's own words.
func letBy(w wood) []set {
	out := make([]set, len(w.filters))
	for i, f := range w.filters {
		levels := strings.Split(f, "/")
		out[i] = makeSet(len(w.topics), func(k int) bool { return letsBy(levels, strings.Split(w.topics[k], "/")) })
	}
	return out
}

// texts are odd texts, most of them neither topics nor filters.
func texts() []string {
	out := []string{
		"", "/", "//", "a", "a/", "/a", "a//b", "a/b/", "/a/b", "a/b", "A", "aB", "a b", " a", "a ", "a.b", "a,b", "a\n", "\na", "a\x00", "\x00", "a\\b",
		"+", "#", "+/", "/+", "#/", "/#", "#/a", "#/#", "#/+", "a/#/b", "a/#/#", "a/+/#", "+/#", "+/+", "a+", "+a", "a#", "#a", "++", "##", "+#", "a/b+", "a/+b", "a/#b", "a/b#", "*", "a/*",
		"\xff", "a\xff", "a/\xff", "\xc3", "\x80", "\xe2\x84", "é", "aé", "\u212a", "\uff41", "\u0660", "\u2010", "\ufeffa", "a/é/b", "abcdefghijklmné",
		"-", "_", "-_", "0", "9", "a-_9", "z/0/-/_", "`", "{", ":", "@", "[", ".", "^", "~", "--/__",
	}
	for size := 14; size <= 18; size++ {
		name := strings.Repeat("x", size)
		out = append(out, name, "a/"+name, name+"/a", name+"/+", name+"/#", "+/"+name, strings.Repeat("+", size), strings.Repeat("\xff", size))
	}
	for count := 6; count <= 10; count++ {
		for _, level := range []string{"a", "abcdefghijklmnop", "+", "#", ""} {
			head := strings.Repeat(level+"/", count-1)
			out = append(out, head+"a", head+"+", head+"#", head, head+"A", "a/"+head+"#")
		}
	}
	return append(out, strings.Repeat("a", 1<<16), strings.Repeat("a/", 1<<16), strings.Repeat("/", 1<<16), strings.Repeat("+/", 1<<16)+"#")
}

// anyText is a text out of bytes by which topics and filters are easily spoilt.
func anyText(r *rand.Rand, bytes string, most int) string {
	b := make([]byte, r.Intn(most+1))
	for i := range b {
		b[i] = bytes[r.Intn(len(bytes))]
	}
	return string(b)
}

func wantForm(t *testing.T, s string, right, filter bool) {
	t.Helper()
	if got := topic.Right(s); got != right {
		t.Errorf("Right(%.60q (%d bytes)): %v", s, len(s), got)
	}
	if got := topic.Filter(s); got != filter {
		t.Errorf("Filter(%.60q (%d bytes)): %v", s, len(s), got)
	}
}

// P3.1
func TestFormOfKnown(t *testing.T) {
	for _, s := range []string{"a", "z", "0", "9", "-", "_", "a/b/c", "a-_9", "abcdefghijklmnop", "a/a/a/a/a/a/a/a", "0123456789abcdef/-/_"} {
		wantForm(t, s, true, true)
	}
	for _, s := range []string{"+", "#", "+/+", "+/#", "a/+", "a/#", "+/a", "a/+/b/#", "abcdefghijklmnop/#", "a/a/a/a/a/a/a/+", "a/a/a/a/a/a/a/#", "+/+/+/+/+/+/+/+", "+/+/+/+/+/+/+/#"} {
		wantForm(t, s, false, true)
	}
	for _, s := range []string{
		"", "/", "a/", "/a", "a//b", "//", "#/", "/#", "+/", "/+", "a//#", "A", "a b", "a.b", "é", "\xff", "a\x80", "a\n",
		"abcdefghijklmnopq", "a/abcdefghijklmnopq", "abcdefghijklmnopq/#", "abcdefghijklmné", "abcdefghijklmnoé",
		"a/a/a/a/a/a/a/a/a", "a/a/a/a/a/a/a/a/+", "a/a/a/a/a/a/a/a/#", "a/a/a/a/a/a/a/a/", "+/+/+/+/+/+/+/+/+", "+/+/+/+/+/+/+/+/#",
		"#/a", "#/#", "#/+", "a/#/b", "a/#/#", "a+", "+a", "a#", "#a", "++", "##", "+#", "#+", "a/b+", "a/#b", "++++++++++++++++",
	} {
		wantForm(t, s, false, false)
	}
}

// P3.1: each byte alone, in each place of a name, and in a level behind another one.
func TestFormOfEachByte(t *testing.T) {
	const inNames = "abcdefghijklmnopqrstuvwxyz0123456789-_"
	for i := range 256 {
		b := string([]byte{byte(i)})
		in := strings.Contains(inNames, b)
		wantForm(t, b, in, in || b == "+" || b == "#")
		wantForm(t, "a/"+b, in, in || b == "+" || b == "#")
		wantForm(t, b+"/a", in, in || b == "+")
		wantForm(t, b+b, in, in)
		for k := range 4 {
			s := "abcd"[:k] + b + "abcd"[k:]
			if b != "/" {
				wantForm(t, s, in, in)
			} else {
				wantForm(t, s, k > 0, k > 0) // at the beginning the level ahead of it is empty
			}
		}
		wantForm(t, "abcd"+b, in, in)
	}
}

// P3.1: names of each length, and each count of levels.
func TestFormOfEachSize(t *testing.T) {
	for size := range 40 {
		name, fits := strings.Repeat("n", size), 1 <= size && size <= 16
		wantForm(t, name, fits, fits)
		wantForm(t, name+"/a", fits, fits)
		wantForm(t, "a/"+name, fits, fits)
		wantForm(t, name+"/#", false, fits)
		wantForm(t, "+/"+name, false, fits)
	}
	for count := 1; count < 40; count++ {
		head := strings.Repeat("abcdefghijklmnop/", count-1)
		wantForm(t, head+"a", count <= 8, count <= 8)
		wantForm(t, head+"+", false, count <= 8)
		wantForm(t, head+"#", false, count <= 8)
		wantForm(t, strings.Repeat("+/", count-1)+"+", false, count <= 8)
		wantForm(t, strings.Repeat("#/", count-1)+"#", false, count == 1)
	}
}

// P3.1
func TestFormOfAnyText(t *testing.T) {
	for _, s := range texts() {
		wantForm(t, s, topicForm.MatchString(s), isFilter(s))
	}
	r := rand.New(rand.NewSource(1))
	for range 200000 {
		s := anyText(r, "a/a/a/+/#/-9zA\xff", 12)
		wantForm(t, s, topicForm.MatchString(s), isFilter(s))
		s = anyText(r, "a/+/", 20)
		wantForm(t, s, topicForm.MatchString(s), isFilter(s))
	}
}

// P3.1: of any text, whether it is a topic or not.
func TestLevels(t *testing.T) {
	for s, want := range map[string][]string{
		"":          {""},
		"/":         {"", ""},
		"//":        {"", "", ""},
		"a":         {"a"},
		"a/":        {"a", ""},
		"/a":        {"", "a"},
		"a//b":      {"a", "", "b"},
		"a/b/c":     {"a", "b", "c"},
		"a/+/#":     {"a", "+", "#"},
		"#/a":       {"#", "a"},
		"A b/\xff/": {"A b", "\xff", ""},
		"é/é":       {"é", "é"},
	} {
		if got := topic.Levels(s); !slices.Equal(got, want) {
			t.Errorf("Levels(%q): %q, not %q", s, got, want)
		}
	}
	r := rand.New(rand.NewSource(2))
	all := texts()
	for range 5000 {
		all = append(all, anyText(r, "a//bc+#\xff\x00", 30))
	}
	for _, s := range all {
		got := topic.Levels(s)
		if !slices.Equal(got, strings.Split(s, "/")) || strings.Join(got, "/") != s {
			t.Errorf("Levels(%.60q (%d bytes)): %.60q", s, len(s), got)
		}
	}
}

// P3.1: a list that was answered is its asker's own, with the room behind it.
func TestLevelsAreNew(t *testing.T) {
	s := "a/b/c/d/e"
	first, second := topic.Levels(s), topic.Levels(s)
	for i := range first {
		first[i] = "x"
	}
	_ = append(first, "y", "z")
	if !slices.Equal(second, []string{"a", "b", "c", "d", "e"}) || !slices.Equal(topic.Levels(s), second) {
		t.Errorf("Levels(%q) behind a change: %q, %q", s, second, topic.Levels(s))
	}
}

func wantMatch(t *testing.T, filter, s string, want bool) {
	t.Helper()
	if got := topic.Match(filter, s); got != want {
		t.Errorf("Match(%.60q, %.60q): %v", filter, s, got)
	}
}

// P3.2
func TestMatchOfKnown(t *testing.T) {
	for filter, topics := range map[string]string{
		"a":               "a",
		"a/b":             "a/b",
		"+":               "a b abcdefghijklmnop",
		"a/+/c":           "a/b/c a/a/c a/-/c",
		"a/#":             "a a/b a/b/c a/a/a/a/a/a/a/a",
		"#":               "a a/b a/b/c a/a/a/a/a/a/a/a",
		"+/#":             "a a/b a/a/a/a/a/a/a/a",
		"+/+/#":           "a/b a/b/c",
		"a/+/#":           "a/b a/b/c",
		"a/a/a/a/a/a/a/#": "a/a/a/a/a/a/a a/a/a/a/a/a/a/a a/a/a/a/a/a/a/b",
		"a/a/a/a/a/a/a/+": "a/a/a/a/a/a/a/a a/a/a/a/a/a/a/b",
		"+/+/+/+/+/+/+/+": "a/a/a/a/a/a/a/a a/b/c/d/e/f/g/h",
	} {
		for _, s := range strings.Fields(topics) {
			wantMatch(t, filter, s, true)
		}
	}
	for filter, topics := range map[string]string{
		"a":               "b aa a/a a/b b/a",
		"aa":              "a aaa",
		"a/b":             "a b a/bb a/b/c b/a aa/b",
		"+":               "a/b a/b/c",
		"a/+":             "a b b/a a/b/c",
		"a/+/c":           "a a/c a/b a/b/d a/b/c/d b/b/c",
		"a/#":             "b b/a aa aa/a",
		"a/b/#":           "a b a/a a/bb a/a/b",
		"+/+":             "a a/b/c",
		"+/+/#":           "a",
		"a/+/#":           "a b/b",
		"a/a/a/a/a/a/a/#": "a a/a/a/a/a/a a/a/a/a/a/a/b a/a/a/a/a/a/b/a",
		"a/a/a/a/a/a/a/+": "a/a/a/a/a/a/a a/a/a/a/a/a/b/a",
		"+/+/+/+/+/+/+/+": "a a/a/a/a/a/a/a",
	} {
		for _, s := range strings.Fields(topics) {
			wantMatch(t, filter, s, false)
		}
	}
}

// P3.2: what is no filter lets nothing by, what is no topic is let by by nothing, not even by # or by the same text.
func TestMatchOfWrong(t *testing.T) {
	for _, s := range texts() {
		if !isFilter(s) {
			for _, x := range []string{"a", "a/b", "a/a/a/a/a/a/a/a", s} {
				wantMatch(t, s, x, false)
			}
		}
		if !topicForm.MatchString(s) {
			for _, f := range []string{"#", "+", "+/+", "+/#", "a/#", "+/+/+/+/+/+/+/+", "+/+/+/+/+/+/+/#", s} {
				wantMatch(t, f, s, false)
			}
		}
	}
	for _, f := range []string{"+", "#", "a/+", "a/#", "+/#"} {
		wantMatch(t, f, f, false)
		wantMatch(t, "#", f, false)
	}
}

// P3.2: all filters of few names, and all topics.
func TestMatchOfAll(t *testing.T) {
	for _, w := range woods() {
		by := letBy(w)
		for i, f := range w.filters {
			for k, s := range w.topics {
				if topic.Match(f, s) != by[i].has(k) {
					t.Fatalf("Match(%q, %q): not %v", f, s, by[i].has(k))
				}
			}
		}
	}
}

func wantBoth(t *testing.T, a, b string, covers, meet bool) {
	t.Helper()
	if got := topic.Covers(a, b); got != covers {
		t.Errorf("Covers(%.60q, %.60q): %v", a, b, got)
	}
	if one, other := topic.Meet(a, b), topic.Meet(b, a); one != meet || other != meet {
		t.Errorf("Meet(%.60q, %.60q): %v, and %v the other way round", a, b, one, other)
	}
}

// P3.3
func TestCoversAndMeetOfKnown(t *testing.T) {
	const seven, seven1 = "a/a/a/a/a/a/a", "+/+/+/+/+/+/+"
	for _, x := range []struct {
		a, b         string
		covers, meet bool
	}{
		{"a", "a", true, true}, {"a", "b", false, false}, {"a", "aa", false, false}, {"a", "a/b", false, false}, {"a/b", "a", false, false},
		{"+", "a", true, true}, {"a", "+", false, true}, {"+", "+", true, true}, {"+", "+/+", false, false}, {"+/b", "a/+", false, true}, {"+/b", "+/c", false, false},
		{"#", "#", true, true}, {"#", "+", true, true}, {"#", "a/b", true, true}, {"+", "#", false, true}, {"a", "#", false, true}, {"a/b", "#", false, true},
		{"+/#", "#", true, true}, {"#", "+/#", true, true}, {"+/+/#", "#", false, true}, {"a/#", "#", false, true}, {"+/+", "#", false, true},
		{"a/#", "a", true, true}, {"a", "a/#", false, true}, {"a/#", "a/+", true, true}, {"a/+", "a/#", false, true}, {"a/#", "b/#", false, false}, {"a/#", "+/b/#", false, true},
		{"a/#", "a/b/#", true, true}, {"a/b/#", "a/#", false, true}, {"a/+/#", "a/#", false, true}, {"a/#", "a/+/#", true, true}, {"a/+/#", "a", false, false}, {"a/b/#", "a", false, false}, {"a", "a/+/#", false, false},
		{"+/b/#", "a/#", false, true}, {"+/b/#", "a/c/#", false, false}, {"a/+/c", "a/b/#", false, true}, {"a/+/c", "a/b/c", true, true},
		{seven + "/#", seven + "/+", true, true}, {seven + "/+", seven + "/#", false, true}, {seven + "/#", seven, true, true}, {seven, seven + "/#", false, true}, {seven + "/+", seven, false, false},
		{seven1 + "/#", seven + "/#", true, true}, {seven1 + "/+", seven + "/a", true, true}, {seven1 + "/+", seven1 + "/#", false, true}, {seven1 + "/#", seven1 + "/+", true, true}, {"#", seven1 + "/+", true, true}, {"#", seven + "/#", true, true},
		{seven1 + "/+", "#", false, true}, {seven1 + "/#", "#", false, true}, {seven + "/a", "#", false, true}, {seven + "/a", seven + "/b", false, false}, {seven + "/a", seven + "/#", false, true}, {seven1, seven1 + "/+", false, false},
	} {
		wantBoth(t, x.a, x.b, x.covers, x.meet)
	}
}

// P3.3: what is no filter neither covers nor is covered, nor has it a topic in common with anything, not even with itself.
func TestCoversAndMeetOfWrong(t *testing.T) {
	for _, s := range texts() {
		if isFilter(s) {
			continue
		}
		wantBoth(t, s, s, false, false)
		for _, f := range []string{"#", "+", "+/#", "a", "a/#", "a/b", "+/+/+/+/+/+/+/+", ""} {
			wantBoth(t, s, f, false, false)
			wantBoth(t, f, s, false, false)
		}
	}
}

// P3.3, P3.5: all filters of few names, held against the topics that they let by: one that covers another one lets by all that it does, and two that have a topic in common meet.
func TestCoversAndMeetOfAll(t *testing.T) {
	for _, w := range woods() {
		by := letBy(w)
		for i, a := range w.filters {
			for k, b := range w.filters {
				if topic.Covers(a, b) != by[i].holds(by[k]) {
					t.Fatalf("Covers(%q, %q): not %v", a, b, by[i].holds(by[k]))
				}
				if topic.Meet(a, b) != by[i].touches(by[k]) {
					t.Fatalf("Meet(%q, %q): not %v", a, b, by[i].touches(by[k]))
				}
			}
		}
	}
}

// P3.5: by the program's own words alone: what a filter covers it lets by, one covers itself, covering is handed on, and filters that both let a topic by meet.
func TestWhatFollows(t *testing.T) {
	for _, w := range woods() {
		by, covered := make([]set, len(w.filters)), make([]set, len(w.filters))
		for i, a := range w.filters {
			by[i] = makeSet(len(w.topics), func(k int) bool { return topic.Match(a, w.topics[k]) })
			covered[i] = makeSet(len(w.filters), func(k int) bool { return topic.Covers(a, w.filters[k]) })
		}
		for i, a := range w.filters {
			if !topic.Covers(a, a) || !topic.Meet(a, a) {
				t.Fatalf("Covers, Meet(%q) of itself: %v, %v", a, topic.Covers(a, a), topic.Meet(a, a))
			}
			for k, b := range w.filters {
				if covered[i].has(k) && !(by[i].holds(by[k]) && covered[i].holds(covered[k]) && topic.Meet(a, b)) {
					t.Fatalf("%q covers %q, but not all that this covers or lets by", a, b)
				}
				if by[i].touches(by[k]) && !topic.Meet(a, b) {
					t.Fatalf("Meet(%q, %q): no, though they have a topic in common", a, b)
				}
			}
		}
		for _, s := range w.topics {
			for _, a := range w.filters {
				if topic.Covers(a, s) != topic.Match(a, s) || topic.Meet(a, s) != topic.Match(a, s) {
					t.Fatalf("%q and the topic %q: Covers %v, Meet %v, Match %v", a, s, topic.Covers(a, s), topic.Meet(a, s), topic.Match(a, s))
				}
			}
		}
	}
}

// P3.4: a list in its order, each one held against each one. Bytes that stand ahead of / do not count as such behind a level's end.
func TestLessOfKnown(t *testing.T) {
	list := []string{"", "/", "//", "//a", "/a", "\x00", "\x00/a", "#", "#/a", "+", "+/#", "+/+", "+/a", "+a", "-", "-/z", ".", ".a", "0", "A", "A/a", "_", "a", "a/", "a//", "a//b", "a/#", "a/+", "a/b", "a/b/", "a/b/c", "a/bb", "a/c", "a\x00", "a\x00/b", "a!", "a#", "a+", "a-", "a-/b", "a.", "a0", "aa", "aa/a", "ab", "b", "z", "z/a", "\x7f", "\x80", "\xc3", "é", "é/a", "\xff", "\xff/\xff", "\xff\xff"}
	for i, a := range list {
		for k, b := range list {
			if topic.Less(a, b) != (i < k) {
				t.Errorf("Less(%q, %q): not %v", a, b, i < k)
			}
		}
	}
}

// P3.4: of any texts, long ones too.
func TestLessOfAnyTexts(t *testing.T) {
	hold := func(a, b string) {
		want := slices.Compare(strings.Split(a, "/"), strings.Split(b, "/"))
		if topic.Less(a, b) != (want < 0) || topic.Less(b, a) != (want > 0) {
			t.Fatalf("Less(%.60q, %.60q): %v, %v, not %d", a, b, topic.Less(a, b), topic.Less(b, a), want)
		}
	}
	r := rand.New(rand.NewSource(3))
	for range 100000 {
		hold(anyText(r, "ab/", 6), anyText(r, "ab/", 6))
		hold(anyText(r, "a/-0\x00\xff", 8), anyText(r, "a/-0\x00\xff", 8))
	}
	all := texts()
	for _, a := range all {
		if len(a) > 1000 {
			hold(a, a)
			hold(a, a+"/")
			hold(a, a+"a")
			hold(a, a[:len(a)-1])
			continue
		}
		for _, b := range all {
			if len(b) <= 1000 {
				hold(a, b)
			}
		}
	}
}
