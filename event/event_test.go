package event_test

import (
	"math"
	"math/rand"
	"slices"
	"strconv"
	"strings"
	"testing"
	"unsafe"

	"rivulet/api"
	"rivulet/event"
	"rivulet/topic"
	"rivulet/varint"
)

const most = 1 << 40

// Bytes of numbers at the edge, and above it, written out.
const (
	mostBytes  = "\xfd\x01\x00\x00\x00\x00\x00"
	aboveBytes = "\xfd\x01\x00\x00\x00\x00\x01"
)

// above are numbers above 2^40: the first one, such that as an int of fewer bits, or with a sign, would be small or none, and the last one.
var above = []uint64{most + 1, most + 2, 1<<41 + 1, 1<<48 + 1, 1 << 62, math.MaxInt64, 1 << 63, 1<<63 + 1, 1<<64 - 2, math.MaxUint64}

// plain is an event that may be, of which the others are made by one change.
var plain = api.Event{Origin: 1, Seq: 2, Topic: "a", Load: "x", Ttl: 3}

// changed is plain with a change.
func changed(change func(e *api.Event)) api.Event {
	e := plain
	change(&e)
	return e
}

// known are events that may be, with their bytes and their texts: of each field the edges that the document names.
var known = []struct {
	e    api.Event
	s    string
	show string
}{
	{plain, "\x01\x02\x03\x01a\x01x", "1:2 a 1 3"},
	{api.Event{Origin: 0, Seq: 1, Topic: "a"}, "\x00\x01\x00\x01a\x00", "0:1 a 0 0"},
	{changed(func(e *api.Event) { e.Origin = 0 }), "\x00\x02\x03\x01a\x01x", "0:2 a 1 3"},
	{changed(func(e *api.Event) { e.Origin = 241 }), "\xf1\x01\x02\x03\x01a\x01x", "241:2 a 1 3"},
	{changed(func(e *api.Event) { e.Origin = most - 1 }), "\xfc\xff\xff\xff\xff\xff\x02\x03\x01a\x01x", "1099511627775:2 a 1 3"},
	{changed(func(e *api.Event) { e.Origin = most }), mostBytes + "\x02\x03\x01a\x01x", "1099511627776:2 a 1 3"},
	{changed(func(e *api.Event) { e.Seq = 1 }), "\x01\x01\x03\x01a\x01x", "1:1 a 1 3"},
	{changed(func(e *api.Event) { e.Seq = 70000 }), "\x01\xfa\x01\x11\x70\x03\x01a\x01x", "1:70000 a 1 3"},
	{changed(func(e *api.Event) { e.Seq = most }), "\x01" + mostBytes + "\x03\x01a\x01x", "1:1099511627776 a 1 3"},
	{changed(func(e *api.Event) { e.Ttl = 0 }), "\x01\x02\x00\x01a\x01x", "1:2 a 1 0"},
	{changed(func(e *api.Event) { e.Ttl = 1 }), "\x01\x02\x01\x01a\x01x", "1:2 a 1 1"},
	{changed(func(e *api.Event) { e.Ttl = 999 }), "\x01\x02\xf3\xf7\x01a\x01x", "1:2 a 1 999"},
	{changed(func(e *api.Event) { e.Ttl = 1000 }), "\x01\x02\xf3\xf8\x01a\x01x", "1:2 a 1 1000"},
	{changed(func(e *api.Event) { e.Load = "" }), "\x01\x02\x03\x01a\x00", "1:2 a 0 3"},
	{changed(func(e *api.Event) { e.Load = "\x00\xff \n:" }), "\x01\x02\x03\x01a\x05\x00\xff \n:", "1:2 a 5 3"},
	{changed(func(e *api.Event) { e.Load = "é" }), "\x01\x02\x03\x01a\x02é", "1:2 a 2 3"},
	{changed(func(e *api.Event) { e.Load = load(63) }), "\x01\x02\x03\x01a\x3f" + load(63), "1:2 a 63 3"},
	{changed(func(e *api.Event) { e.Load = load(64) }), "\x01\x02\x03\x01a\x40" + load(64), "1:2 a 64 3"},
	{changed(func(e *api.Event) { e.Topic = "a/b-_/09" }), "\x01\x02\x03\x08a/b-_/09\x01x", "1:2 a/b-_/09 1 3"},
	{changed(func(e *api.Event) { e.Topic = longTopic }), "\x01\x02\x03\x87" + longTopic + "\x01x", "1:2 " + longTopic + " 1 3"},
	{api.Event{Origin: most, Seq: most, Topic: longTopic, Load: load(64), Ttl: 1000}, mostBytes + mostBytes + "\xf3\xf8\x87" + longTopic + "\x40" + load(64), "1099511627776:1099511627776 " + longTopic + " 64 1000"},
}

// longTopic is the longest topic: 8 levels of 16 bytes.
var longTopic = strings.Repeat("abcdefghijklmno0/", 7) + "abcdefghijklmno1"

// load is one of so many bytes.
func load(n int) string { return strings.Repeat("\xffz", n)[:n] }

// noTopics are texts that are no topics.
var noTopics = []string{"", "/", "a/", "/a", "a//b", "+", "#", "a/+", "a/#", "A", "a b", "a.b", "é", "\xff", "\x00", strings.Repeat("a", 17), "a/a/a/a/a/a/a/a/a", longTopic + "x", strings.Repeat("a", 65536)}

// wrong are events that may not be, each by one field alone.
func wrong() []api.Event {
	var out []api.Event
	for _, n := range []int{-1, -2, math.MinInt, most + 1, 1 << 41, math.MaxInt} {
		out = append(out, changed(func(e *api.Event) { e.Origin = n }), changed(func(e *api.Event) { e.Seq = n }), changed(func(e *api.Event) { e.Ttl = n }))
	}
	out = append(out, changed(func(e *api.Event) { e.Seq = 0 }))
	for _, n := range []int{1001, 1002, 2287, most} {
		out = append(out, changed(func(e *api.Event) { e.Ttl = n }))
	}
	for _, n := range []int{65, 66, 240, 4096, 65536, 65537} {
		out = append(out, changed(func(e *api.Event) { e.Load = load(n) }))
	}
	for _, s := range noTopics {
		out = append(out, changed(func(e *api.Event) { e.Topic = s }))
	}
	return append(out, api.Event{})
}

// brief is a text that is not too long to be told.
func brief(s string) string {
	if len(s) > 60 {
		return strconv.Quote(s[:60]) + " (" + strconv.Itoa(len(s)) + " bytes)"
	}
	return strconv.Quote(s)
}

func wantGet(t *testing.T, s string, at int, want api.Event, to int, err api.Errno) {
	t.Helper()
	if gotE, gotTo, gotErr := event.Get(s, at); gotE != want || gotTo != to || gotErr != err {
		t.Fatalf("Get(%s, %d): %v, %d, %d, not %v, %d, %d", brief(s), at, gotE, gotTo, gotErr, want, to, err)
	}
}

func noGet(t *testing.T, s string, at int, err api.Errno) {
	t.Helper()
	wantGet(t, s, at, api.Event{}, 0, err)
}

func wantCut(t *testing.T, s string, at int, want []api.Mark, to int, err api.Errno) {
	t.Helper()
	if got, gotTo, gotErr := event.Cut(s, at); !slices.Equal(got, want) || gotTo != to || gotErr != err {
		t.Fatalf("Cut(%s, %d): %v, %d, %d, not %v, %d, %d", brief(s), at, got, gotTo, gotErr, want, to, err)
	}
}

func noCut(t *testing.T, s string, at int, err api.Errno) {
	t.Helper()
	wantCut(t, s, at, nil, 0, err)
}

// The document's own example.
func TestExample(t *testing.T) {
	if got := event.Put(api.Event{Origin: 1, Seq: 2, Topic: "a", Load: "x", Ttl: 3}); got != "\x01\x02\x03\x01\x61\x01\x78" {
		t.Errorf("%x", got)
	}
}

// P6.1, P6.2: Right, Put and Show of events that may be.
func TestKnown(t *testing.T) {
	for _, x := range known {
		if !event.Right(x.e) {
			t.Errorf("Right(%v): no", x.e)
		}
		if got := event.Put(x.e); got != x.s {
			t.Errorf("Put(%v): %x, not %x", x.e, got, x.s)
		}
		if got := event.Show(x.e); got != x.show {
			t.Errorf("Show(%v): %q, not %q", x.e, got, x.show)
		}
	}
}

// P6.1, P6.2: of events that may not be Put and Show tell nothing.
func TestWrong(t *testing.T) {
	for _, e := range wrong() {
		if event.Right(e) || event.Put(e) != "" || event.Show(e) != "" {
			t.Errorf("%d:%d %s %d %d: it may not be", e.Origin, e.Seq, brief(e.Topic), len(e.Load), e.Ttl)
		}
	}
}

// P6.1: an event at any place: what stands ahead and behind does not matter.
func TestGet(t *testing.T) {
	for _, x := range known {
		for _, ahead := range []string{"", "\x00", "\xff\xff", "zz\xf1", x.s} {
			for _, behind := range []string{"", "\x00", "\xff", x.s} {
				wantGet(t, ahead+x.s+behind, len(ahead), x.e, len(ahead)+len(x.s), api.OK)
			}
		}
	}
}

// P6.1: events in a row, one behind the other.
func TestGetRow(t *testing.T) {
	row := ""
	for _, x := range known {
		row += event.Put(x.e)
	}
	at := 0
	for _, x := range known {
		wantGet(t, row, at, x.e, at+len(x.s), api.OK)
		at += len(x.s)
	}
	noGet(t, row, at, api.ErrShort)
}

// P6.1: bytes that end too soon, at each place.
func TestGetOfTooFew(t *testing.T) {
	for _, x := range known {
		for size := range len(x.s) {
			noGet(t, x.s[:size], 0, api.ErrShort)
			noGet(t, "ab"+x.s[:size], 2, api.ErrShort)
		}
	}
}

// P6.1: a place that is none.
func TestGetAtNoPlace(t *testing.T) {
	for _, s := range []string{"", "\x05", known[0].s, known[0].s + known[1].s} {
		for _, at := range []int{-1, -2, math.MinInt, len(s) + 1, len(s) + 2, math.MaxInt} {
			noGet(t, s, at, api.ErrArg)
		}
		noGet(t, s, len(s), api.ErrShort)
	}
}

// fields are an event's parts as bytes, each of which can be changed for another one.
func fields() [5]string {
	return [5]string{"\x01", "\x02", "\x03", "\x01a", "\x01x"}
}

// P6.1: what is no number's, or text's, own bytes, in each of the parts; a text that is too long to be cut.
func TestGetOfNoParts(t *testing.T) {
	noForms := []string{"\xfa\x00\x00\x01", "\xfa\x01\x08\xef", "\xfb\x00\xff\xff\xff", "\xff\x00\x00\x00\x00\x00\x00\x00\x01"}
	for i := range 5 {
		for _, s := range noForms {
			f := fields()
			f[i] = s
			noGet(t, strings.Join(f[:], ""), 0, api.ErrForm)
			noGet(t, "z"+strings.Join(f[:i+1], ""), 1, api.ErrForm)
		}
	}
	for i := 3; i < 5; i++ {
		for _, n := range append([]uint64{65537, 1 << 32, most}, above...) {
			f := fields()
			f[i] = varint.Put(n)
			noGet(t, strings.Join(f[:], ""), 0, api.ErrBig)
			f[i] += strings.Repeat("a", 65537)
			noGet(t, strings.Join(f[:], ""), 0, api.ErrBig)
		}
		f := fields()
		f[i] = varint.Put(65536)
		noGet(t, strings.Join(f[:], ""), 0, api.ErrShort)
	}
}

// P6.1: parts that are whole, but tell no event that may be.
func TestGetOfNoEvent(t *testing.T) {
	hold := func(i int, s string) {
		t.Helper()
		f := fields()
		f[i] = s
		noGet(t, strings.Join(f[:], ""), 0, api.ErrForm)
		noGet(t, "z"+strings.Join(f[:], "")+"z", 1, api.ErrForm)
	}
	for i := range 3 {
		hold(i, aboveBytes)
		for _, n := range above {
			hold(i, varint.Put(n))
		}
	}
	hold(1, "\x00")
	for _, n := range []uint64{1001, 1002, 2287, 2288, most} {
		hold(2, varint.Put(n))
	}
	for _, s := range noTopics {
		hold(3, varint.Text(s))
	}
	for _, n := range []int{65, 66, 240, 65536} {
		hold(4, varint.Text(load(n)))
	}
}

// P6.1, R2: of several errors the first part's; that a part is wrong as bytes is told ahead of that an event may not be, wherever that stands.
func TestGetFirstError(t *testing.T) {
	const form, big = "\xfa\x00\x00\x01", "\xf9\xf7\x11"
	for _, x := range []struct {
		s    string
		want api.Errno
	}{
		{form, api.ErrForm},
		{form + "\xff", api.ErrForm},
		{"\x01" + form + "\x03" + big, api.ErrForm},
		{"\x01\x02" + form + big, api.ErrForm},
		{"\x01\x02\x03" + form + big, api.ErrForm},
		{"\x01\x02\x03" + big + form, api.ErrBig},
		{"\x01\x02\x03\x01a" + big, api.ErrBig},
		{"\x01\x02\x03\x01A" + big, api.ErrBig},
		{"\x01\x02\x03\x01A", api.ErrShort},
		{"\x01\x02\x03\x01A\x01", api.ErrShort},
		{"\x01\x00\x03\x01a\x01", api.ErrShort},
		{"\x01\x00\x03\x02a", api.ErrShort},
		{"\x01\x00", api.ErrShort},
		{"\x01\x02\xf3\xf9\x01a", api.ErrShort},
		{aboveBytes, api.ErrShort},
		{aboveBytes + "\x02\x03" + big, api.ErrBig},
		{varint.Put(math.MaxUint64) + "\x02\x03\x01a\x02x", api.ErrShort},
		{varint.Put(math.MaxUint64) + "\x02\x03\x01a\x01x", api.ErrForm},
		{"\x01\x00\x03\x01a" + form, api.ErrForm},
		{"\x01\x00\x03\x01a" + big, api.ErrBig},
	} {
		noGet(t, x.s, 0, x.want)
		noGet(t, "\x00\xff"+x.s, 2, x.want)
	}
}

// told is Get in the document's own words: part by part, each error as it comes.
func told(s string, at int) (api.Event, int, api.Errno) {
	origin, at, err := varint.Get(s, at)
	if err != api.OK {
		return api.Event{}, 0, err
	}
	seq, at, err := varint.Get(s, at)
	if err != api.OK {
		return api.Event{}, 0, err
	}
	ttl, at, err := varint.Get(s, at)
	if err != api.OK {
		return api.Event{}, 0, err
	}
	name, at, err := varint.Cut(s, at)
	if err != api.OK {
		return api.Event{}, 0, err
	}
	content, at, err := varint.Cut(s, at)
	if err != api.OK {
		return api.Event{}, 0, err
	}
	if origin > most || seq < 1 || seq > most || ttl > 1000 || !topic.Right(name) || len(content) > 64 {
		return api.Event{}, 0, api.ErrForm
	}
	return api.Event{Origin: int(origin), Seq: int(seq), Topic: name, Load: content, Ttl: int(ttl)}, at, api.OK
}

// anyNumber is a number by chance, often an edge, sometimes above 2^40.
func anyNumber(random *rand.Rand) uint64 {
	switch random.Intn(8) {
	case 0:
		return above[random.Intn(len(above))]
	case 1:
		return most - uint64(random.Intn(2))
	case 2:
		return random.Uint64() >> random.Intn(64)
	}
	return uint64(random.Intn(4))
}

// anyEvent is one by chance that may be.
func anyEvent(random *rand.Rand) api.Event {
	e := api.Event{Origin: random.Intn(most+1) >> random.Intn(41), Seq: 1 + random.Intn(most)>>random.Intn(41), Ttl: random.Intn(1001)}
	names := make([]string, 1+random.Intn(8))
	for i := range names {
		for range 1 + random.Intn(16) {
			names[i] += string("abcxyz0189-_"[random.Intn(12)])
		}
	}
	e.Topic = strings.Join(names, "/")
	for range random.Intn(65) {
		e.Load += string([]byte{byte(random.Intn(256))})
	}
	return e
}

// P6.1: bytes by chance: parts of which some may be and some not, cut off, and with bytes changed.
func TestGetOfMany(t *testing.T) {
	random := rand.New(rand.NewSource(61))
	seen := map[api.Errno]int{}
	for range 60000 {
		s := varint.Put(anyNumber(random)) + varint.Put(anyNumber(random)) + varint.Put(anyNumber(random)) +
			varint.Text([]string{"a", "a/b", "A"}[random.Intn(3)]) + varint.Text(load(random.Intn(67)))
		b := []byte(s)
		for random.Intn(3) == 0 {
			b[random.Intn(len(b))] = byte(random.Intn(256))
		}
		if random.Intn(4) == 0 {
			b = b[:random.Intn(len(b))]
		}
		at := random.Intn(len(b)+3) * random.Intn(2)
		want, to, err := told(string(b), at)
		wantGet(t, string(b), at, want, to, err)
		seen[err]++
	}
	for _, err := range []api.Errno{api.OK, api.ErrArg, api.ErrBig, api.ErrShort, api.ErrForm} {
		if seen[err] < 10 {
			t.Errorf("error %d was seen %d times", err, seen[err])
		}
	}
}

// P6.4: what is put is got; and what is got, put, is these bytes.
func TestPutIsGot(t *testing.T) {
	random := rand.New(rand.NewSource(64))
	for range 5000 {
		e := anyEvent(random)
		s := event.Put(e)
		if s == "" || !event.Right(e) {
			t.Fatalf("%v may be", e)
		}
		wantGet(t, "ahead"+s+"behind", 5, e, 5+len(s), api.OK)
		if got, _, _ := event.Get(s, 0); event.Put(got) != s {
			t.Fatalf("%x becomes %x", s, event.Put(got))
		}
	}
}

// P6.2: ticks below 0, none, some, as many as are left, and more.
func TestAge(t *testing.T) {
	for _, x := range []struct{ ttl, ticks, want int }{
		{0, 0, 0}, {0, 1, 0}, {0, -1, 0}, {0, math.MaxInt, 0}, {0, math.MinInt, 0},
		{1, 0, 1}, {1, 1, 0}, {1, 2, 0}, {1, -1, 1},
		{10, 1, 9}, {10, 9, 1}, {10, 10, 0}, {10, 11, 0}, {10, 5000, 0}, {10, -1, 10}, {10, -10, 10},
		{1000, 0, 1000}, {1000, 1, 999}, {1000, 999, 1}, {1000, 1000, 0}, {1000, 1001, 0}, {1000, math.MaxInt, 0}, {1000, math.MinInt, 1000}, {1000, -1, 1000},
	} {
		for _, y := range known {
			e, want := y.e, y.e
			e.Ttl, want.Ttl = x.ttl, x.want
			if got := event.Age(e, x.ticks); got != want {
				t.Errorf("Age(%v, %d): %v, not %v", e, x.ticks, got, want)
			}
		}
	}
}

// P6.2: an event that may not be is aged as its words say, too: its numbers do not wrap round, its texts stay.
func TestAgeOfWrong(t *testing.T) {
	for _, e := range wrong() {
		for _, ticks := range []int{0, -1, math.MinInt} {
			if event.Age(e, ticks) != e {
				t.Errorf("Age(%d, %d) changes it", e.Ttl, ticks)
			}
		}
		for _, ticks := range []int{1, 1000, most, math.MaxInt - 1, math.MaxInt} {
			want := e
			want.Ttl = 0
			if e.Ttl > ticks {
				want.Ttl = e.Ttl - ticks
			}
			if got := event.Age(e, ticks); got != want {
				t.Errorf("Age(%d, %d): %d, not %d", e.Ttl, ticks, got.Ttl, want.Ttl)
			}
		}
	}
}

// P6.4: an event only gets older: it never has more ticks left, stays the same one, may still be, and ages by two spans as by both at once.
func TestOnlyOlder(t *testing.T) {
	random := rand.New(rand.NewSource(65))
	for range 5000 {
		e := anyEvent(random)
		a, b := random.Intn(1500)-100, random.Intn(1500)-100
		older := event.Age(e, a)
		if older.Ttl > e.Ttl || !event.Same(older, e) || !event.Right(older) {
			t.Fatalf("Age(%v, %d): %v", e, a, older)
		}
		if twice, once := event.Age(older, b), event.Age(e, max(a, 0)+max(b, 0)); twice != once {
			t.Fatalf("%v by %d and %d: %v, not %v", e, a, b, twice, once)
		}
	}
}

// P6.2: each field but Ttl tells two events apart, of such that may not be, too.
func TestSame(t *testing.T) {
	for _, e := range append(wrong(), plain, known[len(known)-1].e) {
		if !event.Same(e, e) {
			t.Errorf("Same(%v): no", e)
		}
		for i, change := range []func(e *api.Event){
			func(e *api.Event) { e.Ttl++ },
			func(e *api.Event) { e.Ttl = -e.Ttl - 1 },
			func(e *api.Event) { e.Origin++ },
			func(e *api.Event) { e.Seq-- },
			func(e *api.Event) { e.Topic += "b" },
			func(e *api.Event) { e.Load += "\x00" },
			func(e *api.Event) { e.Topic, e.Load = e.Load+"b", e.Topic },
			func(e *api.Event) { e.Origin, e.Seq = e.Seq+1, e.Origin },
		} {
			other := e
			change(&other)
			if want := i < 2; event.Same(e, other) != want || event.Same(other, e) != want {
				t.Errorf("Same by change %d of %d:%d: not %t", i, e.Origin, e.Seq, want)
			}
		}
	}
	if event.Same(api.Event{Topic: "ab", Load: "c"}, api.Event{Topic: "a", Load: "bc"}) || event.Same(api.Event{Topic: "a"}, api.Event{Topic: "A"}) {
		t.Error("texts are the same")
	}
}

// row is so many marks, with Origins from a number on that rise by a step, and Seqs from one on.
func row(n, origin, step, seq int) []api.Mark {
	var out []api.Mark
	for i := range n {
		out = append(out, api.Mark{Origin: origin + i*step, Seq: seq + i})
	}
	return out
}

// knownMarks are marks that may be, with their bytes.
var knownMarks = []struct {
	l []api.Mark
	s string
}{
	{nil, "\x00"},
	{[]api.Mark{}, "\x00"},
	{[]api.Mark{{Origin: 0, Seq: 1}}, "\x01\x00\x01"},
	{[]api.Mark{{Origin: most, Seq: most}}, "\x01" + mostBytes + mostBytes},
	{[]api.Mark{{Origin: 0, Seq: most}, {Origin: 1, Seq: 1}}, "\x02\x00" + mostBytes + "\x01\x01"},
	{[]api.Mark{{Origin: 0, Seq: 5}, {Origin: 7, Seq: 300}}, "\x02\x00\x05\x07\xf1\x3c"},
	{[]api.Mark{{Origin: most - 1, Seq: 1}, {Origin: most, Seq: 1}}, "\x02\xfc\xff\xff\xff\xff\xff\x01" + mostBytes + "\x01"},
	{[]api.Mark{{Origin: 3, Seq: 9}, {Origin: 4, Seq: 8}, {Origin: 5, Seq: 8}}, "\x03\x03\x09\x04\x08\x05\x08"},
	{row(31, 0, 1, 1), "\x1f" + pairs(31, 0)},
	{row(32, 0, 1, 1), "\x20" + pairs(32, 0)},
	{row(32, 5, 1, 1), "\x20" + pairs(32, 5)},
}

// pairs are the bytes of so many marks with Origins from a small number on, Seqs from 1 on, both by one.
func pairs(n, origin int) string {
	var out []byte
	for i := range n {
		out = append(out, byte(origin+i), byte(1+i))
	}
	return string(out)
}

// wrongMarks are marks that may not be.
func wrongMarks() [][]api.Mark {
	out := [][]api.Mark{
		make([]api.Mark, 1), make([]api.Mark, 32), row(33, 0, 1, 1), row(34, 0, 7, 1), row(1000, 0, 1, 1), row(2, 5, 0, 1), row(32, 5, 0, 1), row(2, 5, -1, 1), row(32, 31, -1, 1),
		{{Origin: 1, Seq: 1}, {Origin: 2, Seq: 1}, {Origin: 2, Seq: 2}}, {{Origin: 1, Seq: 1}, {Origin: 3, Seq: 1}, {Origin: 2, Seq: 1}}, {{Origin: 0, Seq: 1}, {Origin: 0, Seq: 1}},
		{{Origin: 2, Seq: 1}, {Origin: 1, Seq: 2}, {Origin: 3, Seq: 3}}, {{Origin: most, Seq: 1}, {Origin: most, Seq: 1}}, {{Origin: most, Seq: 1}, {Origin: 0, Seq: 1}},
	}
	for _, n := range []int{-1, math.MinInt, most + 1, math.MaxInt} {
		for i := range 3 {
			l, m := row(3, 1, 1, 1), row(3, 1, 1, 1)
			l[i].Origin, m[i].Seq = n, n
			out = append(out, l, m, []api.Mark{{Origin: n, Seq: 1}}, []api.Mark{{Origin: 1, Seq: n}})
		}
	}
	for i := range 32 {
		l := row(32, 0, 1, 1)
		l[i].Seq = 0
		out = append(out, l)
	}
	return out
}

// P6.3: Sorted and Marks, of marks that may be.
func TestMarks(t *testing.T) {
	for _, x := range knownMarks {
		if !event.Sorted(x.l) {
			t.Errorf("Sorted(%v): no", x.l)
		}
		if got := event.Marks(x.l); got != x.s {
			t.Errorf("Marks(%v): %x, not %x", x.l, got, x.s)
		}
	}
}

// P6.3: of marks that may not be Marks tells nothing.
func TestWrongMarks(t *testing.T) {
	for _, l := range wrongMarks() {
		if event.Sorted(l) || event.Marks(l) != "" {
			t.Errorf("%v: these may not be", l)
		}
	}
}

// P6.3: marks at any place: what stands ahead and behind does not matter.
func TestCut(t *testing.T) {
	for _, x := range knownMarks {
		for _, ahead := range []string{"", "\x00", "\xff\xff", "zz\x21", x.s} {
			for _, behind := range []string{"", "\x00", "\xff", x.s} {
				wantCut(t, ahead+x.s+behind, len(ahead), x.l, len(ahead)+len(x.s), api.OK)
			}
		}
	}
}

// P6.3: bytes that end too soon, at each place, and a place that is none.
func TestCutOfTooFew(t *testing.T) {
	for _, x := range knownMarks {
		for size := range len(x.s) {
			noCut(t, x.s[:size], 0, api.ErrShort)
			noCut(t, "ab"+x.s[:size], 2, api.ErrShort)
		}
		for _, at := range []int{-1, -2, math.MinInt, len(x.s) + 1, len(x.s) + 2, math.MaxInt} {
			noCut(t, x.s, at, api.ErrArg)
		}
		noCut(t, x.s, len(x.s), api.ErrShort)
	}
	noCut(t, "", 1, api.ErrArg)
}

// P6.3: more than 32, be they there or not, be they so many that an int has no such number.
func TestCutOfTooMany(t *testing.T) {
	for _, n := range append([]uint64{33, 34, 240, 241, 65537, 1 << 32, most}, above...) {
		noCut(t, varint.Put(n), 0, api.ErrBig)
		noCut(t, "z"+varint.Put(n)+pairs(33, 0), 1, api.ErrBig)
	}
	noCut(t, "\x20", 0, api.ErrShort)
	noCut(t, "\x20"+pairs(31, 0), 0, api.ErrShort)
	noCut(t, "\x21\xfa\x00\x00\x01", 0, api.ErrBig)
}

// P6.3: bytes that are no number's own, in each of the parts; parts that are whole, but tell marks that may not be.
func TestCutOfNoMarks(t *testing.T) {
	const form = "\xfa\x00\x00\x01"
	noCut(t, form, 0, api.ErrForm)
	noCut(t, "\xff\x00\x00\x00\x00\x00\x00\x00\xff", 0, api.ErrForm)
	for i := range 4 {
		parts := [4]string{"\x01", "\x01", "\x02", "\x01"}
		parts[i] = form
		noCut(t, "\x02"+strings.Join(parts[:], ""), 0, api.ErrForm)
		noCut(t, "z\x02"+strings.Join(parts[:i+1], ""), 1, api.ErrForm)
		for _, n := range above {
			parts[i] = varint.Put(n)
			noCut(t, "\x02"+strings.Join(parts[:], ""), 0, api.ErrForm)
		}
	}
	for _, l := range wrongMarks() {
		if len(l) > 32 || slices.ContainsFunc(l, func(m api.Mark) bool { return m.Origin < 0 || m.Seq < 0 }) {
			continue
		}
		s := varint.Put(uint64(len(l)))
		for _, m := range l {
			s += varint.Put(uint64(m.Origin)) + varint.Put(uint64(m.Seq))
		}
		noCut(t, s, 0, api.ErrForm)
		noCut(t, "z"+s+"z", 1, api.ErrForm)
		noCut(t, s[:len(s)-1], 0, api.ErrShort)
	}
}

// P6.3, R2: of several errors the first part's, ahead of that marks may not be.
func TestCutFirstError(t *testing.T) {
	const form = "\xfa\x00\x00\x01"
	for _, x := range []struct {
		s    string
		want api.Errno
	}{
		{"\x02" + form + "\x01\x02", api.ErrForm},
		{"\x02\x01\x00\x01", api.ErrShort},
		{"\x02\x01\x00" + form, api.ErrForm},
		{"\x02\x05\x01\x04", api.ErrShort},
		{"\x01" + aboveBytes, api.ErrShort},
		{"\x01" + aboveBytes + "\x00", api.ErrForm},
		{"\x01" + varint.Put(math.MaxUint64), api.ErrShort},
		{"\x03\x01\x01\x01\x01\xf1", api.ErrShort},
	} {
		noCut(t, x.s, 0, x.want)
		noCut(t, "\x00\xff"+x.s, 2, x.want)
	}
}

// toldMarks is Cut in the document's own words.
func toldMarks(s string, at int) ([]api.Mark, int, api.Errno) {
	count, at, err := varint.Get(s, at)
	if err != api.OK {
		return nil, 0, err
	}
	if count > 32 {
		return nil, 0, api.ErrBig
	}
	var parts []uint64
	for range 2 * count {
		n, to, err := varint.Get(s, at)
		if err != api.OK {
			return nil, 0, err
		}
		parts, at = append(parts, n), to
	}
	var l []api.Mark
	for i := 0; i < len(parts); i += 2 {
		origin, seq := parts[i], parts[i+1]
		if origin > most || seq < 1 || seq > most || i > 0 && origin <= parts[i-2] {
			return nil, 0, api.ErrForm
		}
		l = append(l, api.Mark{Origin: int(origin), Seq: int(seq)})
	}
	return l, at, api.OK
}

// P6.3: bytes by chance, cut off, and with bytes changed.
func TestCutOfMany(t *testing.T) {
	random := rand.New(rand.NewSource(63))
	seen := map[api.Errno]int{}
	for range 60000 {
		count := random.Intn(4)
		if random.Intn(4) == 0 {
			count = 30 + random.Intn(5)
		}
		s, origin := varint.Put(uint64(count)), uint64(random.Intn(3))
		for range count {
			s += varint.Put(origin) + varint.Put(1+uint64(random.Intn(300)))
			origin += 1 + uint64(random.Intn(300))
			if random.Intn(40) == 0 {
				origin = anyNumber(random)
			}
		}
		b := []byte(s)
		for random.Intn(3) == 0 {
			b[random.Intn(len(b))] = byte(random.Intn(256))
		}
		if random.Intn(4) == 0 {
			b = b[:random.Intn(len(b))]
		}
		at := random.Intn(len(b)+3) * random.Intn(2)
		want, to, err := toldMarks(string(b), at)
		wantCut(t, string(b), at, want, to, err)
		seen[err]++
	}
	for _, err := range []api.Errno{api.OK, api.ErrArg, api.ErrBig, api.ErrShort, api.ErrForm} {
		if seen[err] < 10 {
			t.Errorf("error %d was seen %d times", err, seen[err])
		}
	}
}

// P6.4: marks that are put are got; and what is got, put, is these bytes.
func TestMarksAreCut(t *testing.T) {
	random := rand.New(rand.NewSource(66))
	for range 5000 {
		var l []api.Mark
		origin := random.Intn(3)
		for range random.Intn(33) {
			l = append(l, api.Mark{Origin: origin, Seq: 1 + random.Intn(most)>>random.Intn(41)})
			origin += 1 + random.Intn(most/32-1)>>random.Intn(41)
		}
		s := event.Marks(l)
		if s == "" || !event.Sorted(l) {
			t.Fatalf("%v may be", l)
		}
		wantCut(t, "ahead"+s+"behind", 5, l, 5+len(s), api.OK)
		if got, _, _ := event.Cut(s, 0); event.Marks(got) != s {
			t.Fatalf("%x becomes %x", s, event.Marks(got))
		}
	}
}

// R4: marks that are handed in, and the room behind them, are left as they were.
func TestHandedInIsLeft(t *testing.T) {
	for _, l := range append(wrongMarks(), row(3, 1, 1, 1)) {
		room := append(slices.Clone(l), api.Mark{Origin: 77, Seq: 77})
		event.Sorted(room[:len(l)])
		event.Marks(room[:len(l)])
		if !slices.Equal(room, append(slices.Clone(l), api.Mark{Origin: 77, Seq: 77})) {
			t.Errorf("%v becomes %v", l, room)
		}
	}
}

// R4: marks that are answered are their owner's, spare room too.
func TestAnswersAreNew(t *testing.T) {
	s := event.Marks(row(3, 1, 1, 1))
	first, _, _ := event.Cut(s, 0)
	second, _, _ := event.Cut(s, 0)
	second = second[:cap(second)]
	for i := range second {
		second[i] = api.Mark{Origin: 77, Seq: 77}
	}
	if !slices.Equal(first, row(3, 1, 1, 1)) {
		t.Error(first)
	}
	wantCut(t, s, 0, row(3, 1, 1, 1), len(s), api.OK)
}

// R4: the texts that are answered are new memory, too: none is a piece of what was handed in.
func TestTextsAreNew(t *testing.T) {
	s := known[len(known)-1].s
	e, _, _ := event.Get(s, 0)
	for _, ticks := range []int{-1, 0, 1, 5000} {
		older := event.Age(e, ticks)
		if overlap(e.Topic, older.Topic) || overlap(e.Load, older.Load) {
			t.Errorf("by %d ticks: the texts are those that were handed in", ticks)
		}
	}
	if overlap(s, e.Topic) || overlap(s, e.Load) {
		t.Error("an event's texts are pieces of the bytes that it was got from")
	}
}

func overlap(whole, s string) bool {
	at := uintptr(unsafe.Pointer(unsafe.StringData(s)))
	begin := uintptr(unsafe.Pointer(unsafe.StringData(whole)))
	return len(s) > 0 && begin <= at && at < begin+uintptr(len(whole))
}
