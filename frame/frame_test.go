package frame_test

import (
	"math"
	"math/rand"
	"slices"
	"strconv"
	"strings"
	"testing"
	"unsafe"

	"rivulet/api"
	"rivulet/check"
	"rivulet/event"
	"rivulet/frame"
	"rivulet/topic"
	"rivulet/varint"
)

const most = 1 << 40

// Bytes of numbers at the edge, and above it, and bytes that are no number's own, written out.
const (
	mostBytes  = "\xfd\x01\x00\x00\x00\x00\x00"
	aboveBytes = "\xfd\x01\x00\x00\x00\x00\x01"
	noForm     = "\xfa\x00\x00\x01"
)

// above are numbers above 2^40: the first one, such that as an int of fewer bits, or with a sign, would be small or none, and the last one.
var above = []uint64{most + 1, most + 2, 1<<41 + 1, 1<<48 + 1, 1 << 62, math.MaxInt64, 1 << 63, 1<<63 + 1, 1<<64 - 2, math.MaxUint64}

// e is an event that may be, eBytes are its bytes; the greatest one has all that an event can have.
var (
	e        = api.Event{Origin: 1, Seq: 2, Topic: "a", Load: "x", Ttl: 3}
	greatest = api.Event{Origin: most, Seq: most, Topic: longTopic, Load: strings.Repeat("\xffz", 32), Ttl: 1000}
)

const eBytes = "\x01\x02\x03\x01a\x01x"

// longTopic is the longest topic: 8 levels of 16 bytes.
var longTopic = strings.Repeat("abcdefghijklmno0/", 7) + "abcdefghijklmno1"

// row are so many marks, with Origins from a number on, Seqs from 1 on.
func row(n, origin int) []api.Mark {
	var out []api.Mark
	for i := range n {
		out = append(out, api.Mark{Origin: origin + i, Seq: 1 + i})
	}
	return out
}

// rowBytes are the bytes of such marks, of small numbers, with their count ahead.
func rowBytes(n, origin int) string {
	out := []byte{byte(n)}
	for i := range n {
		out = append(out, byte(origin+i), byte(1+i))
	}
	return string(out)
}

// known are frames that may be, with their inner bytes and their texts: of each kind the edges that the document names.
var known = []struct {
	f     api.Frame
	inner string
	show  string
}{
	{api.Frame{Kind: 1, Epoch: 1}, "\x01\x01\x00", "attach 1 0"},
	{api.Frame{Kind: 1, Epoch: 1, Marks: []api.Mark{}}, "\x01\x01\x00", "attach 1 0"},
	{api.Frame{Kind: 1, Epoch: most}, "\x01" + mostBytes + "\x00", "attach 1099511627776 0"},
	{api.Frame{Kind: 1, Epoch: 241, Marks: []api.Mark{{Origin: 0, Seq: 1}}}, "\x01\xf1\x01\x01\x00\x01", "attach 241 1"},
	{api.Frame{Kind: 1, Epoch: 7, Marks: []api.Mark{{Origin: 0, Seq: 5}, {Origin: most, Seq: most}}}, "\x01\x07\x02\x00\x05" + mostBytes + mostBytes, "attach 7 2"},
	{api.Frame{Kind: 1, Epoch: 1, Marks: row(31, 0)}, "\x01\x01" + rowBytes(31, 0), "attach 1 31"},
	{api.Frame{Kind: 1, Epoch: 1, Marks: row(32, 0)}, "\x01\x01" + rowBytes(32, 0), "attach 1 32"},
	{api.Frame{Kind: 2, Epoch: 1, Seq: 1}, "\x02\x01\x01\x00", "welcome 1 1 0"},
	{api.Frame{Kind: 2, Epoch: 2, Seq: 9, Marks: []api.Mark{{Origin: 1, Seq: 5}}}, "\x02\x02\x09\x01\x01\x05", "welcome 2 9 1"},
	{api.Frame{Kind: 2, Epoch: most, Seq: most, Marks: row(32, 9)}, "\x02" + mostBytes + mostBytes + rowBytes(32, 9), "welcome 1099511627776 1099511627776 32"},
	{api.Frame{Kind: 3, Epoch: 1, Seq: 1, E: e}, "\x03\x01\x01" + eBytes, "data 1 1 1:2 a 1 3"},
	{api.Frame{Kind: 3, Epoch: 5, Seq: 300, E: api.Event{Seq: 1, Topic: "a"}}, "\x03\x05\xf1\x3c\x00\x01\x00\x01a\x00", "data 5 300 0:1 a 0 0"},
	{api.Frame{Kind: 3, Epoch: most, Seq: most, E: e}, "\x03" + mostBytes + mostBytes + eBytes, "data 1099511627776 1099511627776 1:2 a 1 3"},
	{api.Frame{Kind: 3, Epoch: 1, Seq: 7, E: greatest}, "\x03\x01\x07" + mostBytes + mostBytes + "\xf3\xf8\x87" + longTopic + "\x40" + greatest.Load, "data 1 7 1099511627776:1099511627776 " + longTopic + " 64 1000"},
	{api.Frame{Kind: 4, Epoch: 1}, "\x04\x01\x00\x00", "ack 1 0 0"},
	{api.Frame{Kind: 4, Epoch: 1, Seq: 1}, "\x04\x01\x01\x00", "ack 1 1 0"},
	{api.Frame{Kind: 4, Epoch: 2, Credit: 1}, "\x04\x02\x00\x01", "ack 2 0 1"},
	{api.Frame{Kind: 4, Epoch: 3, Seq: 6, Credit: 63}, "\x04\x03\x06\x3f", "ack 3 6 63"},
	{api.Frame{Kind: 4, Epoch: most, Seq: most, Credit: 64}, "\x04" + mostBytes + mostBytes + "\x40", "ack 1099511627776 1099511627776 64"},
	{api.Frame{Kind: 5, Epoch: 1}, "\x05\x01", "beat 1"},
	{api.Frame{Kind: 5, Epoch: 3}, "\x05\x03", "beat 3"},
	{api.Frame{Kind: 5, Epoch: most - 1}, "\x05\xfc\xff\xff\xff\xff\xff", "beat 1099511627775"},
	{api.Frame{Kind: 5, Epoch: most}, "\x05" + mostBytes, "beat 1099511627776"},
	{api.Frame{Kind: 6, Epoch: 1, On: true, Filter: "a/+/#"}, "\x06\x01\x01\x05a/+/#", "want 1 on a/+/#"},
	{api.Frame{Kind: 6, Epoch: 1, Filter: "#"}, "\x06\x01\x00\x01#", "want 1 off #"},
	{api.Frame{Kind: 6, Epoch: 1, On: true, Filter: "a/b"}, "\x06\x01\x01\x03a/b", "want 1 on a/b"},
	{api.Frame{Kind: 6, Epoch: most, Filter: longTopic}, "\x06" + mostBytes + "\x00\x87" + longTopic, "want 1099511627776 off " + longTopic},
}

// ofEach is one frame of each kind that has all that its kind has, none of it zero.
func ofEach() []api.Frame {
	return []api.Frame{
		{Kind: api.FrAttach, Epoch: 4, Marks: row(3, 1)},
		{Kind: api.FrWelcome, Epoch: 4, Seq: 5, Marks: row(2, 1)},
		{Kind: api.FrData, Epoch: 4, Seq: 5, E: e},
		{Kind: api.FrAck, Epoch: 4, Seq: 5, Credit: 6},
		{Kind: api.FrBeat, Epoch: 4},
		{Kind: api.FrWant, Epoch: 4, On: true, Filter: "a/+"},
	}
}

// noFilters are texts that are no filters.
var noFilters = []string{"", "/", "a/", "/a", "a//b", "#/a", "a#", "a+/b", "++", "A", "a b", "é", "\xff", "\x00", strings.Repeat("a", 17), "a/a/a/a/a/a/a/a/a", longTopic + "x"}

// wrongEvents are events that may not be, each by one field.
var wrongEvents = []api.Event{
	{}, {Origin: -1, Seq: 2, Topic: "a"}, {Origin: most + 1, Seq: 2, Topic: "a"}, {Seq: 0, Topic: "a"}, {Seq: -1, Topic: "a"}, {Seq: most + 1, Topic: "a"},
	{Seq: 1}, {Seq: 1, Topic: "+"}, {Seq: 1, Topic: "A"}, {Seq: 1, Topic: "a", Load: strings.Repeat("x", 65)}, {Seq: 1, Topic: "a", Ttl: 1001}, {Seq: 1, Topic: "a", Ttl: -1},
}

// wrongMarks are marks that may not be.
var wrongMarks = [][]api.Mark{
	make([]api.Mark, 1), row(33, 0), row(1000, 0), {{Origin: -1, Seq: 1}}, {{Origin: most + 1, Seq: 1}}, {{Origin: 1, Seq: -1}}, {{Origin: 1, Seq: most + 1}},
	{{Origin: 1, Seq: 1}, {Origin: 1, Seq: 1}}, {{Origin: 2, Seq: 1}, {Origin: 1, Seq: 2}}, {{Origin: 1, Seq: 1}, {Origin: 2, Seq: 0}},
}

// wrong are frames that may not be, each by one field alone.
func wrong() []api.Frame {
	var out []api.Frame
	for _, f := range ofEach() {
		with := func(change func(f *api.Frame)) {
			f := f
			change(&f)
			out = append(out, f)
		}
		for _, n := range []int{0, -1, -2, math.MinInt, 7, 8, 100, 257, 1<<32 + 5, math.MaxInt} {
			with(func(f *api.Frame) { f.Kind = n })
		}
		for _, n := range []int{0, -1, math.MinInt, most + 1, 1 << 41, math.MaxInt} {
			with(func(f *api.Frame) { f.Epoch = n })
		}
		for _, n := range []int{-1, math.MinInt, most + 1, 1 << 41, math.MaxInt} {
			with(func(f *api.Frame) { f.Seq = n })
		}
		if f.Kind == api.FrWelcome || f.Kind == api.FrData {
			with(func(f *api.Frame) { f.Seq = 0 })
		}
		for _, n := range []int{-1, math.MinInt, 65, 66, 128, most, math.MaxInt} {
			with(func(f *api.Frame) { f.Credit = n })
		}
		for _, l := range wrongMarks {
			with(func(f *api.Frame) { f.Marks = l })
		}
		for i, x := range wrongEvents {
			if i > 0 || f.Kind == api.FrData {
				with(func(f *api.Frame) { f.E = x })
			}
		}
		for i, s := range noFilters {
			if i > 0 || f.Kind == api.FrWant {
				with(func(f *api.Frame) { f.Filter = s })
			}
		}
	}
	return append(append(out, api.Frame{}), foreign()...)
}

// foreign are frames that have one thing more than their kind has, such as may be where it belongs.
func foreign() []api.Frame {
	var out []api.Frame
	for _, f := range ofEach() {
		with := func(is bool, change func(f *api.Frame)) {
			if is {
				f := f
				change(&f)
				out = append(out, f)
			}
		}
		for _, n := range []int{1, 5, 64} {
			with(f.Seq == 0, func(f *api.Frame) { f.Seq = n })
			with(f.Credit == 0, func(f *api.Frame) { f.Credit = n })
			with(len(f.Marks) == 0, func(f *api.Frame) { f.Marks = row(n/2+1, 0) })
		}
		with(!f.On, func(f *api.Frame) { f.On = true })
		with(f.Filter == "", func(f *api.Frame) { f.Filter = "a/+" })
		for _, x := range []api.Event{e, greatest, {Origin: 1}, {Seq: 1}, {Topic: "a"}, {Load: "x"}, {Ttl: 1}} {
			with(f.E == api.Event{}, func(f *api.Frame) { f.E = x })
		}
	}
	return out
}

// brief is a text that is not too long to be told.
func brief(s string) string {
	if len(s) > 60 {
		return strconv.Quote(s[:60]) + " (" + strconv.Itoa(len(s)) + " bytes)"
	}
	return strconv.Quote(s)
}

// alike is Same in other words.
func alike(a, b api.Frame) bool {
	if len(a.Marks) != len(b.Marks) {
		return false
	}
	for i := range a.Marks {
		if a.Marks[i] != b.Marks[i] {
			return false
		}
	}
	type rest struct {
		kind, epoch, seq, credit int
		on                       bool
		filter                   string
		e                        api.Event
	}
	return rest{a.Kind, a.Epoch, a.Seq, a.Credit, a.On, a.Filter, a.E} == rest{b.Kind, b.Epoch, b.Seq, b.Credit, b.On, b.Filter, b.E}
}

func wantGet(t *testing.T, s string, want api.Frame, err api.Errno) {
	t.Helper()
	if got, gotErr := frame.Get(s); !alike(got, want) || gotErr != err {
		t.Fatalf("Get(%s): %v, %d, not %v, %d", brief(s), got, gotErr, want, err)
	}
}

func noGet(t *testing.T, s string, err api.Errno) {
	t.Helper()
	wantGet(t, s, api.Frame{}, err)
}

// noInner wants an error of inner bytes, that are sealed.
func noInner(t *testing.T, inner string, err api.Errno) {
	t.Helper()
	noGet(t, check.Seal(inner), err)
}

// The document's own example.
func TestExample(t *testing.T) {
	sum := check.Sum("\x05\x03")
	want := "\x02\x05\x03" + string([]byte{byte(sum), byte(sum >> 8), byte(sum >> 16), byte(sum >> 24)})
	if got := frame.Put(api.Frame{Kind: api.FrBeat, Epoch: 3}); got != want {
		t.Errorf("%x, not %x", got, want)
	}
}

// P7.1, P7.3: Right, Put and Show of frames that may be. P7.2: Get of their bytes.
func TestKnown(t *testing.T) {
	for _, x := range known {
		if !frame.Right(x.f) {
			t.Errorf("Right(%v): no", x.f)
		}
		if got := frame.Put(x.f); got != check.Seal(x.inner) {
			t.Errorf("Put(%v): %x, not %x", x.f, got, check.Seal(x.inner))
		}
		if got := frame.Show(x.f); got != x.show {
			t.Errorf("Show(%v): %q, not %q", x.f, got, x.show)
		}
		wantGet(t, check.Seal(x.inner), x.f, api.OK)
	}
}

// P7.1, P7.3: of frames that may not be Put and Show tell nothing.
func TestWrong(t *testing.T) {
	for _, f := range ofEach() {
		if !frame.Right(f) {
			t.Errorf("%v: it may be", f)
		}
	}
	for _, f := range wrong() {
		if frame.Right(f) || frame.Put(f) != "" || frame.Show(f) != "" {
			t.Errorf("%v: it may not be", f)
		}
	}
}

// P7.1: each kind, without one of the things that it has, or with that one alone.
func TestWithoutOne(t *testing.T) {
	for _, f := range ofEach() {
		for i, change := range []func(f *api.Frame){
			func(f *api.Frame) { f.Seq = 0 },
			func(f *api.Frame) { f.Credit = 0 },
			func(f *api.Frame) { f.On = false },
			func(f *api.Frame) { f.Filter = "" },
			func(f *api.Frame) { f.E = api.Event{} },
			func(f *api.Frame) { f.Marks = nil },
		} {
			less := f
			change(&less)
			want := alike(less, f) || i == 5 || i == 2 || i == 1 || i == 0 && f.Kind == api.FrAck
			if frame.Right(less) != want || (frame.Put(less) != "") != want {
				t.Errorf("%v: %v", less, !want)
			}
		}
	}
}

// P7.2: more bytes than a frame may have, whatever they are.
func TestGetOfTooMany(t *testing.T) {
	for _, n := range []int{4097, 4098, 5000, 65535, 65536, 65537, 70000} {
		for _, s := range []string{"x", "\x00", "\xff", "\x05"} {
			noGet(t, strings.Repeat(s, n), api.ErrBig)
		}
		noGet(t, known[0].inner+strings.Repeat("\x00", n), api.ErrBig)
		noGet(t, frame.Put(known[0].f)+strings.Repeat("\x00", n), api.ErrBig)
		noInner(t, strings.Repeat("x", n), api.ErrBig)
	}
	// 4096 bytes are not too many, and 4097 sealed ones are.
	for size, want := range map[int]api.Errno{4096: api.ErrKind, 4097: api.ErrBig} {
		s := check.Seal(strings.Repeat("x", size-3-4))
		if len(s) != size {
			t.Fatal(len(s))
		}
		noGet(t, s, want)
	}
	noGet(t, strings.Repeat("\x00", 4096), api.ErrForm)
	noGet(t, strings.Repeat("x", 4096), api.ErrSum)
	noInner(t, "\x05\x01"+strings.Repeat("x", 4096-3-4-2), api.ErrForm)
	noInner(t, "\x05\x00"+strings.Repeat("x", 4096-3-4-1), api.ErrBig)
	s := frame.Put(known[0].f)
	noGet(t, s+strings.Repeat("\x00", 4096-len(s)), api.ErrForm)
	noGet(t, s+strings.Repeat("\x00", 4097-len(s)), api.ErrBig)
}

// P7.2: bytes that check.Open gives an error of: too few, no number's own, too many, a sum that is wrong.
func TestGetOfNoSealed(t *testing.T) {
	noGet(t, "", api.ErrShort)
	for _, x := range known {
		s := frame.Put(x.f)
		for size := range len(s) {
			noGet(t, s[:size], api.ErrShort)
		}
	}
	noGet(t, noForm, api.ErrForm)
	noGet(t, noForm+"\x05\x01", api.ErrForm)
	noGet(t, varint.Put(65537), api.ErrBig)
	noGet(t, varint.Put(math.MaxUint64), api.ErrBig)
	noGet(t, varint.Put(65536), api.ErrShort)
	noGet(t, "\x02\x05\x01\x00\x00\x00\x00", api.ErrSum)
	noGet(t, "\x02\x05\x01\x00\x00\x00\x00\x00", api.ErrSum)
	noGet(t, "\x00\x00\x00\x00\x01", api.ErrSum)
	noGet(t, "\x01\x07\x00\x00\x00\x00", api.ErrSum)
}

// P7.2: something behind the sealed bytes, ahead of all that is wrong in them.
func TestGetWithSomethingBehind(t *testing.T) {
	for _, x := range known {
		s := frame.Put(x.f)
		for _, behind := range []string{"\x00", "\xff", "\x05", s} {
			noGet(t, s+behind, api.ErrForm)
		}
	}
	for _, inner := range []string{"", "\x00\x01", "\x07\x01", "\x05", "\x01\x01\x21"} {
		noGet(t, check.Seal(inner)+"\x00", api.ErrForm)
	}
}

// P7.2: something behind the inner bytes.
func TestGetWithSomethingBehindInside(t *testing.T) {
	for _, x := range known {
		for _, behind := range []string{"\x00", "\x01", "\xff", x.inner} {
			noInner(t, x.inner+behind, api.ErrForm)
		}
	}
}

// P7.2: inner bytes that end too soon, at each place.
func TestGetOfTooFewInside(t *testing.T) {
	for _, x := range known {
		for size := range len(x.inner) {
			noInner(t, x.inner[:size], api.ErrShort)
		}
	}
}

// P7.2: numbers that are no kind's; the kind's own error ahead of that, and both ahead of Epoch's.
func TestGetOfNoKind(t *testing.T) {
	for _, n := range append([]uint64{0, 7, 8, 100, 240, 241, 256, 257, 258, 65537, 1 << 32, 1<<32 + 5, most}, above...) {
		noInner(t, varint.Put(n), api.ErrKind)
		noInner(t, varint.Put(n)+"\x01", api.ErrKind)
		noInner(t, varint.Put(n)+noForm, api.ErrKind)
		noInner(t, varint.Put(n)+"\x00\x00\x00", api.ErrKind)
	}
	noInner(t, "", api.ErrShort)
	noInner(t, "\xf1", api.ErrShort)
	noInner(t, "\xff\x00", api.ErrShort)
	noInner(t, noForm, api.ErrForm)
	noInner(t, noForm+"\x01", api.ErrForm)
	noInner(t, "\xfa\x00\x00\x05\x01", api.ErrForm)
}

// parts are a frame's inner bytes in parts, of each kind; each can be changed for another one.
func parts() map[int][]string {
	return map[int][]string{
		api.FrAttach:  {"\x01", "\x04", "\x02", "\x01", "\x05", "\x02", "\x06"},
		api.FrWelcome: {"\x02", "\x04", "\x05", "\x01", "\x01", "\x05"},
		api.FrData:    {"\x03", "\x04", "\x05", "\x01", "\x02", "\x03", "\x01a", "\x01x"},
		api.FrAck:     {"\x04", "\x04", "\x05", "\x06"},
		api.FrBeat:    {"\x05", "\x04"},
		api.FrWant:    {"\x06", "\x04", "\x01", "\x03a/+"},
	}
}

// instead are a kind's inner bytes with another part, whole, and as far as that part.
func instead(kind, i int, s string) (whole, cut string) {
	list := parts()[kind]
	list[i] = s
	return strings.Join(list, ""), strings.Join(list[:i+1], "")
}

// P7.2: bytes that are no number's, or text's, own, in each part of each kind.
func TestGetOfNoParts(t *testing.T) {
	for kind, list := range parts() {
		noInner(t, strings.Join(list, "")+"z", api.ErrForm)
		for i := range list {
			for _, s := range []string{noForm, "\xfa\x01\x08\xef", "\xfb\x00\xff\xff\xff", "\xff\x00\x00\x00\x00\x00\x00\x00\x01"} {
				whole, cut := instead(kind, i, s)
				noInner(t, whole, api.ErrForm)
				noInner(t, cut, api.ErrForm)
			}
		}
	}
}

// P7.2: numbers above 2^40, in each part but the kind: a count is too big, a text too; of the others there is no frame.
func TestGetOfAbove(t *testing.T) {
	big := map[[2]int]bool{{api.FrAttach, 2}: true, {api.FrWelcome, 3}: true, {api.FrData, 6}: true, {api.FrData, 7}: true, {api.FrWant, 3}: true}
	for kind, list := range parts() {
		for i := range list {
			if i == 0 {
				continue
			}
			for _, n := range above {
				whole, cut := instead(kind, i, varint.Put(n))
				switch {
				case big[[2]int{kind, i}]:
					noInner(t, whole, api.ErrBig)
					noInner(t, cut, api.ErrBig)
				case kind == api.FrWant && i == 2: // a byte, not a number
					noInner(t, whole, api.ErrForm)
					noInner(t, cut, api.ErrForm)
				case i < len(list)-1:
					noInner(t, whole, api.ErrForm)
					noInner(t, cut, api.ErrShort)
				default:
					noInner(t, whole, api.ErrForm)
				}
			}
		}
	}
}

// P7.2: parts that are whole, but tell no frame that may be.
func TestGetOfNoFrame(t *testing.T) {
	hold := func(kind, i int, s string) {
		t.Helper()
		whole, _ := instead(kind, i, s)
		noInner(t, whole, api.ErrForm)
	}
	for kind := range parts() {
		hold(kind, 1, "\x00")
		hold(kind, 1, aboveBytes)
	}
	for _, kind := range []int{api.FrWelcome, api.FrData} {
		hold(kind, 2, "\x00")
		hold(kind, 2, aboveBytes)
	}
	hold(api.FrAck, 2, aboveBytes)
	for _, n := range []uint64{65, 66, 240, 241, 256, 256 + 64, 1 << 32, most} {
		hold(api.FrAck, 3, varint.Put(n))
	}
	hold(api.FrAttach, 4, "\x00")
	hold(api.FrAttach, 5, "\x01")
	hold(api.FrAttach, 5, "\x00")
	hold(api.FrWelcome, 5, "\x00")
	hold(api.FrData, 4, "\x00")
	hold(api.FrData, 5, "\xf3\xf9")
	hold(api.FrData, 6, "\x01+")
	hold(api.FrData, 6, "\x00")
	hold(api.FrData, 7, "\x41"+strings.Repeat("x", 65))
	for _, s := range noFilters {
		hold(api.FrWant, 3, varint.Text(s))
	}
}

// P7.2: no mark, 32 marks, and 33, be they there or not.
func TestGetOfMarks(t *testing.T) {
	for n := range 33 {
		wantGet(t, check.Seal("\x01\x01"+rowBytes(n, 5)), api.Frame{Kind: 1, Epoch: 1, Marks: row(n, 5)}, api.OK)
		wantGet(t, check.Seal("\x02\x01\x09"+rowBytes(n, 5)), api.Frame{Kind: 2, Epoch: 1, Seq: 9, Marks: row(n, 5)}, api.OK)
	}
	for _, ahead := range []string{"\x01\x01", "\x01\x00", "\x02\x01\x09", "\x02\x00\x00"} {
		noInner(t, ahead+rowBytes(33, 0), api.ErrBig)
		noInner(t, ahead+"\x21", api.ErrBig)
		noInner(t, ahead+"\x20", api.ErrShort)
		noInner(t, ahead+rowBytes(32, 0)[:64], api.ErrShort)
	}
}

// P7.2: FrWant's byte is 0 or 1, and there must be one.
func TestGetOfWantByte(t *testing.T) {
	for b := range 256 {
		inner := "\x06\x01" + string([]byte{byte(b)}) + "\x01+"
		switch b {
		case 0, 1:
			wantGet(t, check.Seal(inner), api.Frame{Kind: 6, Epoch: 1, On: b == 1, Filter: "+"}, api.OK)
			noInner(t, inner[:3], api.ErrShort)
		default:
			noInner(t, inner, api.ErrForm)
			noInner(t, inner[:3], api.ErrForm)
			noInner(t, inner[:3]+"\xff", api.ErrForm)
		}
	}
	noInner(t, "\x06\x01", api.ErrShort)
	noInner(t, "\x06\x00", api.ErrShort)
}

// P7.2, R2: of several errors the one that the promise names first.
func TestGetFirstError(t *testing.T) {
	for _, x := range []struct {
		inner string
		want  api.Errno
	}{
		{"\x05\x00", api.ErrForm},
		{"\x04\x00\x01", api.ErrShort},
		{"\x04\x00\x01\xf1", api.ErrShort},
		{"\x04" + aboveBytes, api.ErrShort},
		{"\x04" + noForm, api.ErrForm},
		{"\x04\x01" + noForm, api.ErrForm},
		{"\x02\x00\x00\x21", api.ErrBig},
		{"\x02\x01" + noForm + "\x21", api.ErrForm},
		{"\x02\x01\xf1", api.ErrShort},
		{"\x02\x01\x00\x01\x05", api.ErrShort},
		{"\x02\x01\x00\x01\x05\x00z", api.ErrForm},
		{"\x03\x00\x00\x01\x00", api.ErrShort},
		{"\x03\x01\x00\x01\x02\x03" + varint.Put(65537), api.ErrBig},
		{"\x03\x01\x01\x01\x00\x03" + varint.Put(65537), api.ErrBig},
		{"\x06\x00\x02", api.ErrForm},
		{"\x06\x00\x01", api.ErrShort},
		{"\x06\x01\x02" + varint.Put(65537), api.ErrForm},
		{"\x06\x00\x01" + varint.Put(65537), api.ErrBig},
		{"\x06\x00\x01" + varint.Put(65536), api.ErrShort},
		{"\x06\x01\x01\x02A", api.ErrShort},
		{"\x06\x01\x01\x01Az", api.ErrForm},
		{"\x00" + noForm, api.ErrKind},
		{"\x07\x00\x00", api.ErrKind},
	} {
		noInner(t, x.inner, x.want)
	}
}

// told is Get in the document's own words.
func told(s string) (api.Frame, api.Errno) {
	if len(s) > 4096 {
		return api.Frame{}, api.ErrBig
	}
	inner, to, err := check.Open(s, 0)
	if err != api.OK {
		return api.Frame{}, err
	}
	if to != len(s) {
		return api.Frame{}, api.ErrForm
	}
	kind, at, err := varint.Get(inner, 0)
	if err != api.OK {
		return api.Frame{}, err
	}
	if kind < 1 || kind > 6 {
		return api.Frame{}, api.ErrKind
	}
	epoch, at, err := varint.Get(inner, at)
	if err != api.OK {
		return api.Frame{}, err
	}
	return toldParts(inner, at, kind, epoch)
}

// toldParts is the rest of told: what stands behind Kind and Epoch.
func toldParts(inner string, at int, kind, epoch uint64) (api.Frame, api.Errno) {
	f := api.Frame{Kind: int(kind)}
	numbers := []uint64{epoch}
	next := func() (err api.Errno) {
		var n uint64
		n, at, err = varint.Get(inner, at)
		numbers = append(numbers, n)
		return err
	}
	err := api.OK
	if kind == 2 || kind == 3 || kind == 4 {
		err = next()
	}
	if err == api.OK && kind == 4 {
		err = next()
	}
	if err == api.OK && kind == 6 {
		switch {
		case at == len(inner):
			err = api.ErrShort
		case inner[at] != 0 && inner[at] != 1:
			err = api.ErrForm
		default:
			f.On, at = inner[at] != 0, at+1
			f.Filter, at, err = varint.Cut(inner, at)
		}
	}
	if err == api.OK && kind == 3 {
		f.E, at, err = event.Get(inner, at)
	}
	if err == api.OK && (kind == 1 || kind == 2) {
		f.Marks, at, err = event.Cut(inner, at)
	}
	if err != api.OK {
		return api.Frame{}, err
	}
	for i, n := range numbers {
		if n > most || n > 64 && i == 2 || n == 0 && (i == 0 || i == 1 && kind != 4) {
			return api.Frame{}, api.ErrForm
		}
	}
	if at != len(inner) || kind == 6 && !topic.Filter(f.Filter) {
		return api.Frame{}, api.ErrForm
	}
	f.Epoch = int(numbers[0])
	if len(numbers) > 1 {
		f.Seq = int(numbers[1])
	}
	if len(numbers) > 2 {
		f.Credit = int(numbers[2])
	}
	return f, api.OK
}

// anyNumber is a number by chance, of any size up to 2^40 or above it.
func anyNumber(random *rand.Rand) uint64 {
	if random.Intn(8) == 0 {
		return above[random.Intn(len(above))]
	}
	return uint64(random.Int63n(most+1)) >> random.Intn(41)
}

// oneOf is one of some texts, by chance.
func oneOf(random *rand.Rand, list ...string) string { return list[random.Intn(len(list))] }

// anyMarks are marks by chance, that may be.
func anyMarks(random *rand.Rand) []api.Mark {
	var l []api.Mark
	origin := random.Intn(3)
	for range random.Intn(33) >> random.Intn(6) {
		l = append(l, api.Mark{Origin: origin, Seq: 1 + random.Intn(most)>>random.Intn(41)})
		origin += 1 + random.Intn(most/32-1)>>random.Intn(41)
	}
	return l
}

// anyEvent is an event by chance, that may be.
func anyEvent(random *rand.Rand) api.Event {
	load := make([]byte, random.Intn(65))
	random.Read(load)
	return api.Event{Origin: random.Intn(most+1) >> random.Intn(41), Seq: 1 + random.Intn(most)>>random.Intn(41), Topic: oneOf(random, "a", "a/b", "a-/0_", longTopic), Load: string(load), Ttl: random.Intn(1001)}
}

// anyFrame is a frame by chance, that may be.
func anyFrame(random *rand.Rand) api.Frame {
	f := api.Frame{Kind: 1 + random.Intn(6), Epoch: 1 + random.Intn(most)>>random.Intn(41)}
	seq := 1 + random.Intn(most)>>random.Intn(41)
	switch f.Kind {
	case api.FrAttach:
		f.Marks = anyMarks(random)
	case api.FrWelcome:
		f.Seq, f.Marks = seq, anyMarks(random)
	case api.FrData:
		f.Seq, f.E = seq, anyEvent(random)
	case api.FrAck:
		f.Seq, f.Credit = seq-1, random.Intn(65)
	case api.FrWant:
		f.On, f.Filter = random.Intn(2) == 1, oneOf(random, "#", "+", "a", "a/+/#", "+/b", longTopic)
	}
	return f
}

// anyInner are inner bytes by chance, that often are no frame's.
func anyInner(random *rand.Rand) string {
	kind := uint64(random.Intn(9))
	number := func() string {
		if random.Intn(30) == 0 {
			return noForm
		}
		return varint.Put(anyNumber(random) >> random.Intn(64))
	}
	s := varint.Put(kind) + number()
	switch kind {
	case 1:
		s += event.Marks(anyMarks(random))
	case 2:
		s += number() + event.Marks(anyMarks(random))
	case 3:
		s += number() + event.Put(anyEvent(random))
	case 4:
		s += number() + varint.Put(uint64(random.Intn(70)))
	case 6:
		s += oneOf(random, "\x00", "\x01", "\x00", "\x01", "\x02", "\xff", "") + varint.Text(oneOf(random, "#", "a/+", "A", "", longTopic))
	}
	b := []byte(s)
	for random.Intn(4) == 0 {
		b[random.Intn(len(b))] = byte(random.Intn(256))
	}
	if random.Intn(6) == 0 {
		b = b[:random.Intn(len(b))]
	}
	if random.Intn(12) == 0 {
		b = append(b, byte(random.Intn(256)))
	}
	return string(b)
}

// P7.2, P7.4: bytes by chance. What is got, put, is these bytes.
func TestGetOfMany(t *testing.T) {
	random := rand.New(rand.NewSource(72))
	seen := map[api.Errno]int{}
	kinds := map[int]int{}
	for range 40000 {
		s := check.Seal(anyInner(random))
		switch random.Intn(20) {
		case 0:
			s = s[:random.Intn(len(s)+1)]
		case 1:
			s += "\x00"
		case 2:
			b := []byte(s)
			b[random.Intn(len(b))] = byte(random.Intn(256))
			s = string(b)
		case 3:
			s += strings.Repeat("z", 4096-random.Intn(len(s)))
		}
		want, err := told(s)
		wantGet(t, s, want, err)
		if err == api.OK {
			if got, _ := frame.Get(s); frame.Put(got) != s || !frame.Right(got) || frame.Show(got) == "" {
				t.Fatalf("%x becomes %x", s, frame.Put(got))
			}
			kinds[want.Kind]++
		}
		seen[err]++
	}
	for _, err := range []api.Errno{api.OK, api.ErrBig, api.ErrShort, api.ErrForm, api.ErrSum, api.ErrKind} {
		if seen[err] < 50 {
			t.Errorf("error %d was seen %d times", err, seen[err])
		}
	}
	for kind := 1; kind < 7; kind++ {
		if kinds[kind] < 50 {
			t.Errorf("kind %d was seen %d times", kind, kinds[kind])
		}
	}
}

// P7.4: what is put is got.
func TestPutIsGot(t *testing.T) {
	random := rand.New(rand.NewSource(74))
	for range 10000 {
		f := anyFrame(random)
		s := frame.Put(f)
		if s == "" || len(s) > 4096 || !frame.Right(f) {
			t.Fatalf("%v may be", f)
		}
		wantGet(t, s, f, api.OK)
		if got, _ := frame.Get(s); !frame.Same(got, f) || frame.Put(got) != s {
			t.Fatalf("%v becomes %v", f, got)
		}
	}
}

// longFrames are frames whose inner bytes have lengths on both sides of 240, where the length's own bytes become two.
func longFrames(t *testing.T) []api.Frame {
	var out []api.Frame
	lengths := map[int]bool{}
	for few := range 15 {
		for _, epoch := range []int{1, 300} {
			l := row(few, 1)
			for i := range 17 {
				l = append(l, api.Mark{Origin: most - 20 + i, Seq: most})
			}
			f := api.Frame{Kind: api.FrAttach, Epoch: epoch, Marks: l}
			inner, _, _ := check.Open(frame.Put(f), 0)
			lengths[len(inner)] = true
			out = append(out, f)
		}
	}
	if !lengths[239] || !lengths[240] || !lengths[241] {
		t.Fatal(lengths)
	}
	return out
}

// P7.4: a frame in which one bit has turned is none, be it in its length, in its inner bytes or in its sum.
func TestOneBit(t *testing.T) {
	list := ofEach()
	for _, x := range known {
		list = append(list, x.f)
	}
	random := rand.New(rand.NewSource(75))
	for range 60 {
		list = append(list, anyFrame(random))
	}
	list = append(list, longFrames(t)...)
	for _, f := range list {
		b := []byte(frame.Put(f))
		if len(b) == 0 {
			t.Fatalf("%v may be", f)
		}
		for i := range 8 * len(b) {
			b[i/8] ^= 1 << (i % 8)
			got, err := frame.Get(string(b))
			if err == api.OK || !alike(got, api.Frame{}) {
				t.Fatalf("bit %d of %v: %v, %d", i, f, got, err)
			}
			want, wantErr := told(string(b))
			if err != wantErr || !alike(got, want) {
				t.Fatalf("bit %d of %v: %d, not %d", i, f, err, wantErr)
			}
			b[i/8] ^= 1 << (i % 8)
		}
	}
}

// P7.3: two are the same if all that they have is, be they such as may be or not.
func TestSame(t *testing.T) {
	changes := []func(f *api.Frame){
		func(f *api.Frame) { f.Kind++ },
		func(f *api.Frame) { f.Epoch++ },
		func(f *api.Frame) { f.Seq++ },
		func(f *api.Frame) { f.Credit-- },
		func(f *api.Frame) { f.On = !f.On },
		func(f *api.Frame) { f.Filter += "/x" },
		func(f *api.Frame) { f.E.Origin++ },
		func(f *api.Frame) { f.E.Seq++ },
		func(f *api.Frame) { f.E.Topic += "x" },
		func(f *api.Frame) { f.E.Load += "\x00" },
		func(f *api.Frame) { f.E.Ttl++ }, // event.Same does not see it, Same does
		func(f *api.Frame) { f.Marks = append(slices.Clone(f.Marks), api.Mark{}) },
	}
	for i := range 3 {
		changes = append(changes,
			func(f *api.Frame) { f.Marks = row(3, 1); f.Marks[i].Origin += 9 },
			func(f *api.Frame) { f.Marks = row(3, 1); f.Marks[i].Seq += 9 })
	}
	for _, f := range append(ofEach(), api.Frame{}, wrong()[3]) {
		if !frame.Same(f, f) {
			t.Errorf("%v is not the same as itself", f)
		}
		for i, change := range changes {
			other := f
			change(&other)
			if frame.Same(f, other) || frame.Same(other, f) || !frame.Same(other, other) {
				t.Errorf("change %d of %v", i, f)
			}
		}
	}
	list := append(ofEach(), wrong()...)
	for i := range list {
		for j := range list {
			if got, want := frame.Same(list[i], list[j]), alike(list[i], list[j]); got != want {
				t.Fatalf("Same(%v, %v): %v", list[i], list[j], got)
			}
		}
	}
}

// P7.3: marks count by their order and their number.
func TestSameMarks(t *testing.T) {
	with := func(l ...api.Mark) api.Frame { return api.Frame{Kind: 1, Epoch: 1, Marks: l} }
	a, b := api.Mark{Origin: 1, Seq: 2}, api.Mark{Origin: 2, Seq: 1}
	for _, x := range []struct {
		a, b api.Frame
		want bool
	}{
		{with(a, b), with(a, b), true},
		{with(a, b), with(b, a), false},
		{with(a, b), with(a), false},
		{with(a), with(a, a), false},
		{with(), with(api.Mark{}), false},
		{api.Frame{Marks: nil}, api.Frame{Marks: []api.Mark{}}, true},
		{api.Frame{Marks: make([]api.Mark, 0, 9)}, api.Frame{}, true},
	} {
		if frame.Same(x.a, x.b) != x.want || frame.Same(x.b, x.a) != x.want {
			t.Errorf("Same(%v, %v): %v", x.a, x.b, !x.want)
		}
	}
	// The same texts and marks in other memory are the same.
	f := api.Frame{Kind: 9, Filter: "a/b", E: e, Marks: row(5, 1)}
	other := api.Frame{Kind: 9, Filter: strings.Join([]string{"a", "b"}, "/"), E: event.Age(e, 0), Marks: row(5, 1)}
	if !frame.Same(f, other) {
		t.Error("other memory")
	}
}

// P7.3: the kinds' names; of what is no kind none.
func TestName(t *testing.T) {
	for kind, want := range map[int]string{api.FrAttach: "attach", api.FrWelcome: "welcome", api.FrData: "data", api.FrAck: "ack", api.FrBeat: "beat", api.FrWant: "want"} {
		if got := frame.Name(kind); got != want {
			t.Errorf("Name(%d): %q, not %q", kind, got, want)
		}
	}
	for _, kind := range []int{0, -1, -2, math.MinInt, api.FrKinds, api.FrKinds + 1, 100, 256, 257, 1<<32 + 1, math.MaxInt} {
		if got := frame.Name(kind); got != "" {
			t.Errorf("Name(%d): %q", kind, got)
		}
	}
}

// R3: a nil list and an empty one are the same, in frames that have marks and in those that have none.
func TestEmptyIsNil(t *testing.T) {
	for _, f := range ofEach() {
		f.Marks = nil
		other := f
		other.Marks = make([]api.Mark, 0, 4)
		if !frame.Right(other) || frame.Put(other) != frame.Put(f) || frame.Show(other) != frame.Show(f) || !frame.Same(f, other) {
			t.Errorf("%v", f)
		}
	}
}

// R4: marks that are handed in, and the room behind them, are left as they were.
func TestHandedInIsLeft(t *testing.T) {
	extra := api.Mark{Origin: 77, Seq: 77}
	for _, f := range append(ofEach(), wrong()...) {
		before := append(slices.Clone(f.Marks), extra)
		room := slices.Clone(before)
		f.Marks = room[:len(room)-1]
		frame.Right(f)
		frame.Put(f)
		frame.Show(f)
		frame.Same(f, f)
		if !slices.Equal(room, before) {
			t.Errorf("%v becomes %v", before, room)
		}
	}
}

// R4: marks that are answered are their owner's, spare room too; and a frame's texts are no pieces of its bytes.
func TestAnswersAreNew(t *testing.T) {
	s := frame.Put(ofEach()[0])
	first, _ := frame.Get(s)
	second, _ := frame.Get(s)
	room := second.Marks[:cap(second.Marks)]
	for i := range room {
		room[i] = api.Mark{Origin: 77, Seq: 77}
	}
	if !slices.Equal(first.Marks, row(3, 1)) {
		t.Error(first)
	}
	wantGet(t, s, ofEach()[0], api.OK)
	for _, x := range known {
		s := frame.Put(x.f)
		got, _ := frame.Get(s)
		if overlap(s, got.Filter) || overlap(s, got.E.Topic) || overlap(s, got.E.Load) {
			t.Errorf("%v has pieces of the bytes that it was got from", got)
		}
		if overlap(frame.Show(x.f), x.f.Filter) {
			t.Errorf("the text of %v is its filter's", x.f)
		}
	}
}

func overlap(whole, s string) bool {
	at := uintptr(unsafe.Pointer(unsafe.StringData(s)))
	begin := uintptr(unsafe.Pointer(unsafe.StringData(whole)))
	return len(s) > 0 && begin <= at && at < begin+uintptr(len(whole))
}
