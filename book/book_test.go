package book_test

import (
	"fmt"
	"math"
	"math/rand"
	"slices"
	"strconv"
	"strings"
	"testing"
	"unsafe"

	"rivulet/api"
	"rivulet/book"
	"rivulet/check"
	"rivulet/disk"
	"rivulet/event"
	"rivulet/varint"
	"rivulet/wal"
)

const (
	most        = 1 << 40
	mostEvents  = 64
	mostOrigins = 32
	mostRecords = 40
	mostTtl     = 1000
)

// longTopic and longLoad are the longest that may be.
var (
	longTopic = strings.Repeat("abcdefghijklmnop/", 7) + "abcdefghijklmnop"
	longLoad  = strings.Repeat("\xff\x00", 32)
)

// ev is an event of few bytes.
func ev(origin, seq, ttl int) api.Event {
	return api.Event{Origin: origin, Seq: seq, Topic: "a/b", Load: "x", Ttl: ttl}
}

// raw are parts as bytes, one behind the other, be they a state's or not: numbers, events and marks, and texts as they are.
func raw(parts ...any) string {
	out := ""
	for _, p := range parts {
		switch p := p.(type) {
		case int:
			out += varint.Put(uint64(p))
		case api.Event:
			// Not by event.Put, that tells nothing of an event that may not be.
			out += raw(p.Origin, p.Seq, p.Ttl, varint.Text(p.Topic), varint.Text(p.Load))
		case []api.Mark:
			out += raw(len(p))
			for _, m := range p {
				out += raw(m.Origin, m.Seq)
			}
		case string:
			out += p
		}
	}
	return out
}

// item is an event at its place.
type item struct {
	place int
	e     api.Event
}

// plain is a book as the document's words have it, with what its log has.
type plain struct {
	count   int
	seqs    map[int]int
	items   []item
	round   int
	state   string
	records []string
}

// fresh is an empty one.
func fresh() *plain {
	return &plain{seqs: map[int]int{}}
}

func (p *plain) copy() *plain {
	q := *p
	q.seqs = map[int]int{}
	for o, s := range p.seqs {
		q.seqs[o] = s
	}
	q.items, q.records = slices.Clone(p.items), slices.Clone(p.records)
	return &q
}

// fits is what Put answers.
func (p *plain) fits(e api.Event) api.Errno {
	if !event.Right(e) || e.Ttl <= 0 {
		return api.ErrArg
	}
	if e.Seq <= p.seqs[e.Origin] {
		return api.ErrOld
	}
	if len(p.items) == mostEvents {
		return api.ErrFull
	}
	if p.seqs[e.Origin] == 0 && len(p.seqs) == mostOrigins {
		return api.ErrFull
	}
	return api.OK
}

func (p *plain) put(e api.Event) {
	p.count++
	p.seqs[e.Origin] = e.Seq
	p.items = append(p.items, item{p.count, e})
}

func (p *plain) tick(n int) {
	var left []item
	for _, x := range p.items {
		if x.e.Ttl > n {
			x.e.Ttl -= n
			left = append(left, x)
		}
	}
	p.items = left
}

func (p *plain) marks() []api.Mark {
	var l []api.Mark
	for o, s := range p.seqs {
		l = append(l, api.Mark{Origin: o, Seq: s})
	}
	slices.SortFunc(l, func(a, b api.Mark) int { return a.Origin - b.Origin })
	return l
}

func (p *plain) list() []api.Event {
	var l []api.Event
	for _, x := range p.items {
		l = append(l, x.e)
	}
	return l
}

func (p *plain) bytes() string {
	out := raw(p.count, p.marks(), len(p.items))
	for _, x := range p.items {
		out += raw(x.place, x.e)
	}
	return out
}

// file0 and file1 are what the disk has.
func (p *plain) file0() string {
	if p.round == 0 {
		return ""
	}
	return sealed(p.round, p.state)
}

func (p *plain) file1() string {
	out := ""
	for _, r := range p.records {
		out += sealed(p.round, r)
	}
	return out
}

// sealed is what stands on a disk of a state, or of a record, of a round.
func sealed(round int, s string) string {
	return check.Seal(raw(round) + s)
}

// moment is a plain book, and how many units of a disk there were since the last Sync, when it stood so.
type moment struct {
	units int
	p     *plain
}

// bench is a book, with its disk, and a plain one, to which the same is done; and the moments since the last Sync.
type bench struct {
	t     *testing.T
	d     *disk.Disk
	b     *book.Book
	since []moment
}

// benchOf makes one of a disk, and of the plain book that it must have.
func benchOf(t *testing.T, d *disk.Disk, p *plain) *bench {
	t.Helper()
	return &bench{t, d, opened(t, d), []moment{{0, p}}}
}

func newBench(t *testing.T) *bench {
	t.Helper()
	return benchOf(t, disk.New(), fresh())
}

// opened is the book of a disk, that must have one.
func opened(t *testing.T, d *disk.Disk) *book.Book {
	t.Helper()
	b, e := book.Open(d)
	if e != api.OK || b == nil {
		t.Fatalf("Open of %s and %s: %d", short(d.Read(0)), short(d.Read(1)), e)
	}
	return b
}

func short(s string) string {
	if len(s) > 60 {
		return fmt.Sprintf("%x.. of %d", s[:20], len(s))
	}
	return fmt.Sprintf("%x", s)
}

func (x *bench) now() *plain {
	return x.since[len(x.since)-1].p
}

func (x *bench) units() int {
	return x.since[len(x.since)-1].units
}

// note puts a record into the plain book's log, behind a state, if there are 40: both are moments.
func (x *bench) note(record string) {
	if p := x.now(); len(p.records) >= mostRecords {
		q := p.copy()
		q.round, q.state, q.records = p.round+1, p.bytes(), nil
		x.since = append(x.since, moment{x.units() + 1, q}, moment{x.units() + 2, q})
	}
	q := x.now().copy()
	q.records = append(q.records, record)
	x.since = append(x.since, moment{x.units() + len(sealed(q.round, record)), q})
}

// put and tick do the same to both, and hold what is answered against each other.
func (x *bench) put(e api.Event) api.Errno {
	x.t.Helper()
	want := x.now().fits(e)
	if got := x.b.Put(e); got != want {
		x.t.Fatalf("Put of %.40v: %d, want %d", e, got, want)
	}
	if want == api.OK {
		x.note("P" + event.Put(e))
		x.now().put(e)
	}
	return want
}

func (x *bench) tick(n int) api.Errno {
	x.t.Helper()
	want := api.OK
	if n < 1 || n > mostTtl {
		want = api.ErrArg
	}
	if got := x.b.Tick(n); got != want {
		x.t.Fatalf("Tick of %d: %d, want %d", n, got, want)
	}
	if want == api.OK {
		x.note("T" + varint.Put(uint64(n)))
		x.now().tick(n)
	}
	return want
}

func (x *bench) sync() {
	x.b.Sync()
	x.since = []moment{{0, x.now()}}
}

// crash leaves the first so many units of the disk, and opens the book again.
func (x *bench) crash(units int) {
	x.t.Helper()
	at := 0
	for i, m := range x.since {
		if m.units <= units {
			at = i
		}
	}
	x.d.Crash(units)
	x.since = []moment{{0, x.since[at].p}}
	x.b = opened(x.t, x.d)
}

// reopen opens the book again, without a crash.
func (x *bench) reopen() {
	x.t.Helper()
	x.b = opened(x.t, x.d)
	x.since = []moment{{0, x.now()}}
}

// has holds all that the book tells, and what its disk has, against the plain one.
func (x *bench) has(name string) {
	x.t.Helper()
	p := x.now()
	tells(x.t, name, x.b, p)
	if s, want := x.d.Read(0), p.file0(); s != want {
		x.t.Fatalf("%s: file 0 %s, want %s", name, short(s), short(want))
	}
	if s, want := x.d.Read(1), p.file1(); s != want {
		x.t.Fatalf("%s: file 1 %s, want %s", name, short(s), short(want))
	}
	if n := x.d.Units(); n != x.units() {
		x.t.Fatalf("%s: %d units, want %d", name, n, x.units())
	}
}

// crashes lets copies of the disk crash with every number of units, and holds the books that are opened against the plain ones.
func (x *bench) crashes(name string) {
	x.t.Helper()
	for n := -1; n <= x.units()+1; n++ {
		c := &bench{x.t, x.d.Copy(), nil, slices.Clone(x.since)}
		c.crash(n)
		c.has(name + ", crash with " + strconv.Itoa(n))
	}
}

// tells holds what a book tells, and goes on telling, against a plain one.
func tells(t *testing.T, name string, b *book.Book, p *plain) {
	t.Helper()
	for range 2 {
		if l, want := b.List(), p.list(); !slices.Equal(l, want) {
			t.Fatalf("%s: List %.40v, want %.40v", name, l, want)
		}
		if l, want := b.Marks(), p.marks(); !slices.Equal(l, want) {
			t.Fatalf("%s: Marks %v, want %v", name, l, want)
		}
		if n := b.Count(); n != p.count {
			t.Fatalf("%s: Count %d, want %d", name, n, p.count)
		}
		if n, want := b.Room(), mostEvents-len(p.items); n != want {
			t.Fatalf("%s: Room %d, want %d", name, n, want)
		}
		tellsSeqs(t, name, b, p)
		tellsAfter(t, name, b, p)
		tellsMissing(t, name, b, p)
	}
}

func tellsSeqs(t *testing.T, name string, b *book.Book, p *plain) {
	t.Helper()
	origins := []int{0, 1, 2, -1, most, most + 1, math.MinInt, math.MaxInt}
	for o := range p.seqs {
		origins = append(origins, o-1, o, o+1)
	}
	for _, o := range origins {
		if n := b.Seq(o); n != p.seqs[o] {
			t.Fatalf("%s: Seq of %d: %d, want %d", name, o, n, p.seqs[o])
		}
	}
}

func tellsAfter(t *testing.T, name string, b *book.Book, p *plain) {
	t.Helper()
	places := []int{math.MinInt, -1, 0, 1, p.count - 1, p.count, p.count + 1, math.MaxInt}
	for _, x := range p.items {
		places = append(places, x.place-1, x.place, x.place+1)
	}
	for _, place := range places {
		var want item
		for _, x := range slices.Backward(p.items) {
			if x.place > place {
				want = x
			}
		}
		e, at, is := b.After(place)
		if e != want.e || at != want.place || is != (want.place > 0) {
			t.Fatalf("%s: After %d: %.40v, %d, %t, want %.40v", name, place, e, at, is, want)
		}
	}
}

// tellsMissing asks for what marks do not have: none, those of the book, and such as have an event just, or just not.
func tellsMissing(t *testing.T, name string, b *book.Book, p *plain) {
	t.Helper()
	lists := [][]api.Mark{nil, p.marks(), {{Origin: -1, Seq: 9}}, {{Origin: 1, Seq: -1}}}
	for i, x := range p.items {
		if i == len(p.items)/2 {
			for by := -1; by <= 1; by++ {
				lists = append(lists, []api.Mark{{Origin: x.e.Origin, Seq: x.e.Seq + by}})
			}
		}
	}
	for _, l := range lists {
		wantMissing(t, name, b, p, l)
	}
}

func wantMissing(t *testing.T, name string, b *book.Book, p *plain, l []api.Mark) {
	t.Helper()
	var want []api.Event
	for _, x := range p.items {
		had := 0
		for _, m := range l {
			if m.Origin == x.e.Origin {
				had = m.Seq
			}
		}
		if x.e.Seq > had {
			want = append(want, x.e)
		}
	}
	if got := b.Missing(l); !slices.Equal(got, want) {
		t.Fatalf("%s: Missing of %v: %.40v, want %.40v", name, l, got, want)
	}
}

// diskOf is a disk with these files 0 and 1, and others, of which some is sure: all, if sure, else just what stood there ahead.
func diskOf(file0, file1 string, sure bool) *disk.Disk {
	d := disk.New()
	d.Append(0, "old 0")
	d.Append(1, "old 1")
	d.Append(2, "two")
	d.Sync()
	d.Replace(0, file0)
	d.Replace(1, file1)
	d.Append(2, ", more")
	d.Replace(3, "three")
	if sure {
		d.Sync()
	}
	return d
}

// same holds that two disks cannot be told from each other, also behind a crash.
func same(t *testing.T, name string, a, b *disk.Disk) {
	t.Helper()
	if a.Units() != b.Units() {
		t.Fatalf("%s: %d units, want %d", name, a.Units(), b.Units())
	}
	for f := range 4 {
		if a.Read(f) != b.Read(f) || a.Kept(f) != b.Kept(f) {
			t.Fatalf("%s: file %d: %s, kept %s, want %s, kept %s", name, f, short(a.Read(f)), short(a.Kept(f)), short(b.Read(f)), short(b.Kept(f)))
		}
	}
	for n := range b.Units() {
		c, d := a.Copy(), b.Copy()
		c.Crash(n)
		d.Crash(n)
		for f := range 4 {
			if c.Read(f) != d.Read(f) {
				t.Fatalf("%s: file %d behind a crash with %d: %s, want %s", name, f, n, short(c.Read(f)), short(d.Read(f)))
			}
		}
	}
}

// logs calls what it is given with disks that have this state and these records: in some rounds, with bytes behind that a log puts away, and without.
func logs(state string, records []string, do func(round int, d *disk.Disk)) {
	for _, round := range []int{0, 1, 300} {
		p := plain{round: round, state: state, records: records}
		file0 := sealed(round, state)
		if round == 0 && state == "" {
			file0 = ""
		}
		for _, behind := range []string{"", "\x05cut", sealed(round+1, "Tx"), check.Seal("")} {
			do(round, diskOf(file0, p.file1()+behind, behind == ""))
		}
	}
}

// wantOpen holds that logs of this state and these records are this book, and that it goes on from there.
func wantOpen(t *testing.T, name, state string, records []string, want *plain) {
	t.Helper()
	logs(state, records, func(round int, d *disk.Disk) {
		c := d.Copy()
		if _, e := wal.Open(c); e != api.OK {
			t.Fatal(e)
		}
		p := want.copy()
		p.round, p.state, p.records = round, state, records
		tells(t, name, opened(t, d), p)
		same(t, name, d, c)
		tells(t, name+", once more", opened(t, d), p)
		x := benchOf(t, c, p)
		for i := range 2 {
			x.tick(1)
			x.put(ev(1, x.now().seqs[1]+1, 9+i))
			tells(t, name+", and on", x.b, x.now())
		}
		tells(t, name+", and on, opened", opened(t, c), x.now())
	})
}

// wantOdd holds that logs of this state and these records are no book, and that their disk is as the log left it.
func wantOdd(t *testing.T, name, state string, records []string) {
	t.Helper()
	logs(state, records, func(_ int, d *disk.Disk) {
		c := d.Copy()
		if _, e := wal.Open(c); e != api.OK {
			t.Fatal(e)
		}
		if b, e := book.Open(d); b != nil || e != api.ErrForm {
			t.Fatalf("%s: Open of %s and %.60q: %t, %d", name, short(state), records, b != nil, e)
		}
		same(t, name, d, c)
	})
}

// P11.1, P11.3, P11.4: the book of an empty disk has nothing, and makes nothing there.
func TestNew(t *testing.T) {
	x := newBench(t)
	x.has("new")
	x.crashes("new")
	same(t, "new", x.d, disk.New())
	if l := x.b.List(); len(l) != 0 || x.b.Room() != 64 || x.b.Count() != 0 || len(x.b.Marks()) != 0 {
		t.Error(l, x.b.Room())
	}
	if e, place, is := x.b.After(0); e != (api.Event{}) || place != 0 || is {
		t.Error(e, place, is)
	}
	for _, round := range []int{0, 1, 7} {
		d := diskOf(sealed(round, ""), "", true)
		tells(t, "a state without bytes", opened(t, d), fresh())
	}
}

// P11.2, P11.3: the document's example.
func TestExample(t *testing.T) {
	b := opened(t, disk.New())
	for _, x := range []struct {
		seq  int
		want api.Errno
	}{{5, api.OK}, {5, api.ErrOld}, {7, api.OK}} {
		if e := b.Put(ev(1, x.seq, 9)); e != x.want {
			t.Fatalf("Put 1:%d: %d, want %d", x.seq, e, x.want)
		}
	}
	if l := b.Marks(); !slices.Equal(l, []api.Mark{{Origin: 1, Seq: 7}}) {
		t.Error(l)
	}
}

// Words: what stands on the disk, byte by byte.
func TestBytes(t *testing.T) {
	d := disk.New()
	b := opened(t, d)
	b.Put(api.Event{Origin: 1, Seq: 2, Topic: "a", Load: "x", Ttl: 3})
	b.Tick(1)
	l, _ := wal.Open(d.Copy())
	if want := []string{"P\x01\x02\x03\x01a\x01x", "T\x01"}; !slices.Equal(l.Records(), want) {
		t.Errorf("%q", l.Records())
	}
	b.Put(api.Event{Origin: 0, Seq: 300, Topic: "b/c", Ttl: 1000})
	b.Put(api.Event{Origin: 0, Seq: 301, Topic: "b/c", Ttl: 1})
	for range 36 {
		b.Tick(1)
	}
	b.Put(api.Event{Origin: 2, Seq: 1, Topic: "d", Ttl: 250})
	b.Tick(241)
	l, _ = wal.Open(d.Copy())
	if want := "\x03\x02\x00\xf1\x3d\x01\x02\x01\x02\x00\xf1\x3c\xf3\xd4\x03b/c\x00"; l.State() != want {
		t.Errorf("%x, want %x", l.State(), want)
	}
	if want := []string{"P\x02\x01\xf1\x0a\x01d\x00", "T\xf1\x01"}; !slices.Equal(l.Records(), want) || l.Round() != 1 {
		t.Errorf("%q, %d", l.Records(), l.Round())
	}
}

// P11.1: wal.Open's errors: no book, and the disk as it was.
func TestOpenOfNoLog(t *testing.T) {
	spoiled := []byte(sealed(1, "\x00\x00\x00"))
	spoiled[2] ^= 8
	for _, x := range []struct {
		file0 string
		want  api.Errno
	}{
		{"x", api.ErrShort},
		{"\xf1\x00\x00\x00\x00\x00", api.ErrForm},
		{varint.Put(65537), api.ErrBig},
		{string(spoiled), api.ErrSum},
		{sealed(1, "\x00\x00\x00") + "x", api.ErrForm},
		{sealed(1, "nothing") + "x", api.ErrForm},
		{check.Seal(""), api.ErrShort},
		{check.Seal("\xf1\x00"), api.ErrForm},
		{sealed(most+1, "\x00\x00\x00"), api.ErrForm},
		{sealed(most+1, ""), api.ErrForm},
	} {
		for _, file1 := range []string{"", "zz", sealed(1, "T\x01"), sealed(1, "X") + "z"} {
			for _, sure := range []bool{false, true} {
				d := diskOf(x.file0, file1, sure)
				before := d.Copy()
				if b, e := book.Open(d); b != nil || e != x.want {
					t.Fatalf("%s: %t, %d, want %d", short(x.file0), b != nil, e, x.want)
				}
				same(t, "no log", d, before)
			}
		}
	}
}

// known are states that may be.
func known() map[string]*plain {
	full := fresh()
	full.count = most
	for i := range mostOrigins {
		full.seqs[most-3*i] = most - i
	}
	for i := range mostEvents {
		o := most - 3*(i%mostOrigins)
		full.items = append(full.items, item{most - mostEvents + i + 1, api.Event{Origin: o, Seq: most - 200 + i, Topic: longTopic, Load: longLoad, Ttl: mostTtl}})
	}
	gaps := fresh()
	gaps.count = 3000
	gaps.seqs = map[int]int{0: 1, 1: 70000, 250: 3}
	gaps.items = []item{{1, ev(1, 69998, 1)}, {240, ev(250, 3, 999)}, {241, ev(1, 69999, 241)}, {3000, ev(1, 70000, 2)}}
	marks := fresh()
	marks.count, marks.seqs = 7, map[int]int{0: 5, 3: most, 4: 1}
	bare := fresh()
	bare.count = 1
	return map[string]*plain{"nothing": fresh(), "full": full, "gaps": gaps, "marks": marks, "a Count alone": bare}
}

// P11.1: states that are read, with records behind them.
func TestOpenStates(t *testing.T) {
	for name, p := range known() {
		wantOpen(t, name, p.bytes(), nil, p)
		q := p.copy()
		q.tick(2)
		q.tick(998)
		wantOpen(t, name+", and ticks", p.bytes(), []string{"T\x02", "T" + raw(998)}, q)
	}
}

// P11.1: a state that is cut off at any place, or behind which something stands.
func TestOpenOfCutStates(t *testing.T) {
	for name, p := range known() {
		s := p.bytes()
		step := 1 + len(s)/400
		for n := 1; n < len(s); n += step {
			wantOdd(t, name+", cut off", s[:n], nil)
		}
		wantOdd(t, name+", cut off", s[:len(s)-1], nil)
		for _, more := range []string{"\x00", "x", "\xff", s, raw(1, ev(1, 1, 1))} {
			wantOdd(t, name+", and more", s+more, nil)
			wantOdd(t, name+", and more", s+more, []string{"T\x01"})
		}
	}
}

// P11.1: numbers of a state that are not their own bytes, or too great, wherever they stand.
func TestOpenOfOddNumbers(t *testing.T) {
	parts := []any{2, 1, 5, 7, 1, 2, ev(5, 7, 9)}
	p := fresh()
	p.count, p.seqs, p.items = 2, map[int]int{5: 7}, []item{{2, ev(5, 7, 9)}}
	wantOpen(t, "as it must be", raw(parts...), nil, p)
	for i := range 6 {
		for _, odd := range []any{"\xf1", "\xf1\x00x", "\xfa\x00\x00\x01", "\xff\x00\x00\x00\x00\x00\x00\x00\x01", varint.Put(math.MaxUint64), varint.Put(1 << 63), varint.Put(1<<63 + 2), most + 1, most + 2, math.MaxInt} {
			l := slices.Clone(parts)
			l[i] = odd
			wantOdd(t, "number "+strconv.Itoa(i), raw(l...), nil)
		}
	}
}

// P11.1: parts of a state that may not stand there.
func TestOpenOfOddStates(t *testing.T) {
	e := ev(5, 7, 9)
	m := []api.Mark{{Origin: 5, Seq: 7}}
	many := func(n int) string {
		out := raw(100, []api.Mark{{Origin: 5, Seq: 100}}, n)
		for i := range n {
			out += raw(i+1, ev(5, i+1, 9))
		}
		return out
	}
	row := func(n int) []api.Mark {
		var l []api.Mark
		for i := range n {
			l = append(l, api.Mark{Origin: i, Seq: 9})
		}
		return l
	}
	for name, s := range map[string]string{
		"place 0":                      raw(2, m, 1, 0, e),
		"a place above Count":          raw(2, m, 1, 3, e),
		"a place far above Count":      raw(2, m, 1, most, e),
		"a place, and Count 0":         raw(0, m, 1, 1, e),
		"a place twice":                raw(9, m, 2, 4, ev(5, 6, 9), 4, e),
		"places that fall":             raw(9, m, 2, 4, ev(5, 6, 9), 3, e),
		"the third place falls":        raw(9, m, 3, 4, ev(5, 5, 9), 6, ev(5, 6, 9), 5, e),
		"Count above 2^40":             raw(most+1, m, 1, 2, e),
		"Count above 2^40, no event":   raw(most+1, m, 0),
		"65 events":                    many(65),
		"66 events":                    many(66),
		"300 events":                   many(300),
		"fewer events than are told":   raw(9, m, 2, 4, e),
		"more events than are told":    raw(9, m, 1, 4, ev(5, 6, 9), 5, e),
		"events, none told":            raw(9, m, 0, 4, e),
		"very many events told":        raw(9, m, math.MaxInt, 4, e),
		"33 marks":                     raw(40, row(33), 0),
		"1000 marks":                   raw(4000, row(1000), 0),
		"marks that fall":              raw(9, []api.Mark{{Origin: 6, Seq: 1}, {Origin: 5, Seq: 7}}, 1, 2, e),
		"an origin's mark twice":       raw(9, []api.Mark{{Origin: 5, Seq: 1}, {Origin: 5, Seq: 7}}, 1, 2, e),
		"a mark of 0":                  raw(9, []api.Mark{{Origin: 4, Seq: 0}, {Origin: 5, Seq: 7}}, 1, 2, e),
		"a mark above 2^40":            raw(9, []api.Mark{{Origin: 5, Seq: most + 1}}, 1, 2, e),
		"a mark of none":               raw(9, []api.Mark{{Origin: 5, Seq: 7}, {Origin: most + 1, Seq: 7}}, 1, 2, e),
		"a number above the mark":      raw(9, []api.Mark{{Origin: 5, Seq: 6}}, 1, 2, e),
		"the second is above its mark": raw(9, m, 2, 2, e, 3, ev(5, 8, 9)),
		"no mark":                      raw(9, []api.Mark(nil), 1, 2, e),
		"marks of others":              raw(9, []api.Mark{{Origin: 4, Seq: 9}, {Origin: 6, Seq: 9}}, 1, 2, e),
		"no ticks left":                raw(9, m, 1, 2, ev(5, 7, 0)),
		"the second has none left":     raw(9, m, 2, 2, ev(5, 6, 1), 3, ev(5, 7, 0)),
		"too many ticks left":          raw(9, m, 1, 2, ev(5, 7, 1001)),
		"an event's number 0":          raw(9, m, 1, 2, ev(5, 0, 9)),
		"no topic":                     raw(9, m, 1, 2, api.Event{Origin: 5, Seq: 7, Ttl: 9}),
		"a filter":                     raw(9, m, 1, 2, api.Event{Origin: 5, Seq: 7, Topic: "a/+", Ttl: 9}),
		"a load of 65 bytes":           raw(9, m, 1, 2, api.Event{Origin: 5, Seq: 7, Topic: "a", Load: longLoad + "x", Ttl: 9}),
		"a byte":                       "x",
		"a record":                     "P" + raw(e),
		"an event":                     raw(e),
	} {
		wantOdd(t, name, s, nil)
		wantOdd(t, name, s, []string{"T\x01", "P" + raw(ev(9, 1, 1))})
	}
	p := fresh()
	p.count, p.seqs = 100, map[int]int{5: 100}
	for i := range mostEvents {
		p.items = append(p.items, item{i + 1, ev(5, i+1, 9)})
	}
	wantOpen(t, "64 events", many(64), nil, p)
	p = fresh()
	p.count = 40
	for i := range mostOrigins {
		p.seqs[i] = 9
	}
	wantOpen(t, "32 marks", raw(40, row(32), 0), nil, p)
}

// told is the state of some bytes in the document's own words.
func told(s string) (*plain, bool) {
	count, at, e := varint.Get(s, 0)
	if e != api.OK || count > most {
		return nil, false
	}
	marks, at, e := event.Cut(s, at)
	if e != api.OK {
		return nil, false
	}
	n, at, e := varint.Get(s, at)
	if e != api.OK || n > mostEvents {
		return nil, false
	}
	p := fresh()
	p.count = int(count)
	for _, m := range marks {
		p.seqs[m.Origin] = m.Seq
	}
	last := uint64(0)
	for range n {
		place, to, e := varint.Get(s, at)
		if e != api.OK || place <= last || place > count {
			return nil, false
		}
		x, to, e := event.Get(s, to)
		if e != api.OK || x.Ttl == 0 || x.Seq > p.seqs[x.Origin] {
			return nil, false
		}
		p.items = append(p.items, item{int(place), x})
		last, at = place, to
	}
	return p, at == len(s)
}

// P11.1: states by chance, some of their bytes changed, taken out or doubled.
func TestOpenOfSpoiledStates(t *testing.T) {
	r := rand.New(rand.NewSource(111))
	seen := [2]int{}
	for range 20000 {
		p := fresh()
		for range r.Intn(5) {
			p.seqs[r.Intn(6)] = 1 + r.Intn(400)
		}
		for _, m := range p.marks() {
			for range r.Intn(3) {
				p.count += 1 + r.Intn(150)
				p.items = append(p.items, item{p.count, ev(m.Origin, 1+r.Intn(m.Seq), 1+r.Intn(300))})
			}
		}
		p.count += r.Intn(2)
		b := []byte(p.bytes())
		for range r.Intn(3) {
			at := r.Intn(len(b))
			switch r.Intn(5) {
			case 0:
				b[at] = byte(r.Intn(256))
			case 1:
				b = slices.Delete(b, at, at+1)
			case 2:
				b = slices.Insert(b, at, b[at])
			default:
				b[at] += byte(r.Intn(3) - 1)
			}
			if len(b) == 0 {
				b = []byte{0}
			}
		}
		want, is := told(string(b))
		d := diskOf(sealed(1, string(b)), "", true)
		if !is {
			seen[0]++
			if got, e := book.Open(d); got != nil || e != api.ErrForm {
				t.Fatalf("Open of %x: %t, %d", b, got != nil, e)
			}
			continue
		}
		seen[1]++
		tells(t, "a state by chance", opened(t, d), want)
	}
	if seen[0] < 1000 || seen[1] < 1000 {
		t.Error(seen)
	}
}

// wrong are events that may not be put in.
func wrong() []api.Event {
	var out []api.Event
	for _, n := range []int{-1, math.MinInt, most + 1, math.MaxInt} {
		out = append(out, ev(n, 1, 1), ev(1, n, 1), ev(1, 1, n))
	}
	out = append(out, ev(1, 0, 1), ev(1, 9, 0), ev(1, 9, mostTtl+1), ev(0, 0, 0))
	for _, s := range []string{"", "/", "a/", "/a", "a//b", "+", "a/+", "#", "a/#", longTopic + "/a", longTopic + "q", "abcdefghijklmnopq"} {
		out = append(out, api.Event{Origin: 1, Seq: 9, Topic: s, Load: "x", Ttl: 1})
	}
	return append(out, api.Event{Origin: 1, Seq: 9, Topic: "a", Load: longLoad + "x", Ttl: 1}, api.Event{Origin: 1, Seq: 9, Topic: "a", Load: strings.Repeat("x", 5000), Ttl: 1})
}

// P11.1: records that neither Put nor Tick makes.
func TestOpenOfOddRecords(t *testing.T) {
	e := raw(ev(5, 7, 9))
	odd := []string{
		"", "P", "T", "X", "p" + e, "t\x01", "PP" + e, "TT\x01", e, "\x01", "\x00", "P\x00", "P" + e + "\x00", "P" + e + e, "P" + e[:len(e)-1], "P" + e[1:], "P" + e + "T\x01",
		"T\x00", "T" + raw(mostTtl+1), "T" + raw(most), "T" + varint.Put(math.MaxUint64), "T" + varint.Put(1<<63+1), "T" + varint.Put(1<<32+1), "T\x01\x01", "T\x01\x00", "T\xf1", "T\xf1\x00x", "T\xfa\x00\x00\x01", "\xd0\x9f" + e, "S" + e,
	}
	for _, w := range wrong() {
		odd = append(odd, "P"+raw(w))
	}
	state := raw(1, []api.Mark{{Origin: 1, Seq: 5}}, 1, 1, ev(1, 5, 9))
	for _, s := range odd {
		for _, before := range []string{"", state} {
			wantOdd(t, "an odd record", before, []string{s})
			wantOdd(t, "an odd record", before, []string{"T\x01", "P" + e, s, "T\x01"})
			wantOdd(t, "an odd record", before, []string{s, "T\x01", "P" + e})
		}
	}
}

// P11.1: records are done one behind the other: each must be one that Put, or Tick, could do then.
func TestOpenOfRecordsInOrder(t *testing.T) {
	p := func(origin, seq, ttl int) string { return "P" + raw(ev(origin, seq, ttl)) }
	state := raw(1, []api.Mark{{Origin: 1, Seq: 5}}, 1, 1, ev(1, 5, 9))
	wantOdd(t, "old", "", []string{p(1, 5, 9), p(1, 5, 9)})
	wantOdd(t, "old", "", []string{p(1, 5, 9), p(2, 6, 9), p(1, 4, 9)})
	wantOdd(t, "old behind ticks", "", []string{p(1, 5, 9), "T" + raw(9), p(1, 5, 9)})
	wantOdd(t, "old by the state", state, []string{p(1, 5, 9)})
	wantOdd(t, "old by the state", state, []string{"T" + raw(1000), p(1, 4, 9)})
	q := fresh()
	q.put(ev(1, 5, 9))
	q.tick(3)
	q.put(ev(1, 6, 9))
	q.put(ev(0, 5, 9))
	q.tick(6)
	wantOpen(t, "rising", "", []string{p(1, 5, 9), "T\x03", p(1, 6, 9), p(0, 5, 9), "T\x06"}, q)
	wantOpen(t, "rising behind a state", state, []string{"T\x03", p(1, 6, 9), p(0, 5, 9), "T\x06"}, q)
	q = fresh()
	for range 3 {
		q.tick(1000)
	}
	wantOpen(t, "ticks alone", "", []string{"T" + raw(1000), "T\x01", "T" + raw(999)}, q)
}

// P11.1: a Put into a full book is no record, neither for events nor for marks; and a Tick makes room.
func TestOpenOfTooManyRecords(t *testing.T) {
	var records []string
	p := fresh()
	for i := range mostEvents {
		records = append(records, "P"+raw(ev(3, i+1, 1+i/10)))
		p.put(ev(3, i+1, 1+i/10))
	}
	wantOpen(t, "64 events", "", records, p)
	wantOpen(t, "64 events by a state", p.bytes(), nil, p)
	more := "P" + raw(ev(3, 65, 9))
	wantOdd(t, "65 events", "", append(slices.Clone(records), more))
	wantOdd(t, "65 events by a state", p.bytes(), []string{more})
	q := p.copy()
	q.tick(1)
	q.put(ev(3, 65, 9))
	wantOpen(t, "room again", "", append(slices.Clone(records), "T\x01", more), q)
	wantOpen(t, "room again by a state", p.bytes(), []string{"T\x01", more}, q)

	records, p = nil, fresh()
	for i := range mostOrigins {
		records = append(records, "P"+raw(ev(3*i, 7, 1)), "T\x01")
		p.put(ev(3*i, 7, 1))
		p.tick(1)
	}
	wantOpen(t, "32 marks", "", records, p)
	for _, o := range []int{1, 3 * mostOrigins, most} {
		wantOdd(t, "33 marks", "", append(slices.Clone(records), "P"+raw(ev(o, 7, 1))))
		wantOdd(t, "33 marks by a state", p.bytes(), []string{"P" + raw(ev(o, 7, 1))})
	}
	p.put(ev(3, 8, 1))
	wantOpen(t, "an origin with a mark", "", append(slices.Clone(records), "P"+raw(ev(3, 8, 1))), p)
}

// P11.1: rows of records by chance, right and odd ones.
func TestOpenOfRecordsByChance(t *testing.T) {
	r := rand.New(rand.NewSource(112))
	seen := [2]int{}
	for range 20000 {
		p, is := fresh(), true
		var records []string
		for range r.Intn(12) {
			if r.Intn(3) == 0 {
				n := 1 + r.Intn(5)
				if r.Intn(20) == 0 {
					n = r.Intn(3) * 501
				}
				records = append(records, "T"+raw(n))
				is = is && n >= 1 && n <= mostTtl
				p.tick(n)
				continue
			}
			o := r.Intn(4)
			e := ev(o, p.seqs[o]+1+r.Intn(3)-r.Intn(20)/18, 1+r.Intn(8)-r.Intn(20)/19)
			if e.Seq < 1 {
				continue
			}
			records = append(records, "P"+raw(e))
			is = is && p.fits(e) == api.OK
			p.put(e)
		}
		d := diskOf("", (&plain{records: records}).file1(), true)
		if !is {
			seen[0]++
			if got, e := book.Open(d); got != nil || e != api.ErrForm {
				t.Fatalf("Open of %q: %t, %d", records, got != nil, e)
			}
			continue
		}
		seen[1]++
		tells(t, "records by chance", opened(t, d), p)
	}
	if seen[0] < 1000 || seen[1] < 1000 {
		t.Error(seen)
	}
}

// P11.2: events that may not be put in: nothing changes.
func TestPutOfWrong(t *testing.T) {
	x := newBench(t)
	for range 2 {
		for _, e := range wrong() {
			if x.put(e) != api.ErrArg {
				t.Fatalf("%.60v", e)
			}
			x.has("wrong")
		}
		x.put(ev(1, 5, 9))
		x.put(ev(0, 5, 9))
	}
}

// P11.2: events at the limits of what may be.
func TestPutLimits(t *testing.T) {
	x := newBench(t)
	for _, e := range []api.Event{
		{Origin: 0, Seq: 1, Topic: "a", Ttl: 1},
		{Origin: most, Seq: most, Topic: longTopic, Load: longLoad, Ttl: mostTtl},
		{Origin: 0, Seq: most, Topic: "b", Load: "\x00", Ttl: mostTtl},
		{Origin: most - 1, Seq: 240, Topic: "é/\xff", Ttl: 240},
		{Origin: 241, Seq: 2288, Topic: "é", Ttl: 241},
	} {
		if x.put(e) != api.OK && event.Right(e) {
			t.Fatal(e)
		}
		x.has("limits")
	}
	if x.put(ev(most, most, 1)) != api.ErrOld || x.put(ev(0, most, 1)) != api.ErrOld {
		t.Error("above the greatest number")
	}
	x.has("limits")
	x.crashes("limits")
}

// P11.2: an event's place is Count + 1, be that 2^40 already.
func TestPutBehindTheGreatestCount(t *testing.T) {
	p := fresh()
	p.count, p.round = most, 1
	p.state = p.bytes()
	x := benchOf(t, diskOf(p.file0(), "", true), p)
	for range 2 {
		if x.put(ev(1, 1+x.now().seqs[1], 9)) != api.OK {
			t.Fatal("no place")
		}
		x.has("the greatest Count")
		x.crashes("the greatest Count")
	}
	x.reopen()
	x.has("the greatest Count, opened")
}

// P11.2: an event is old up to its origin's mark, be it there still or not.
func TestPutOfOld(t *testing.T) {
	x := newBench(t)
	x.put(ev(2, 5, 1))
	x.put(ev(1, 300, 2))
	x.tick(1)
	x.put(ev(3, 1, 2))
	x.tick(2)
	for range 2 {
		for o, seq := range map[int]int{2: 5, 1: 300, 3: 1} {
			for _, s := range []int{1, seq - 1, seq} {
				if s > 0 && x.put(ev(o, s, 7)) != api.ErrOld {
					t.Fatalf("%d:%d is not old", o, s)
				}
				x.has("old")
			}
		}
		x.reopen()
	}
	for _, s := range []int{301, 400, most} {
		if x.put(ev(1, s, 9)) != api.OK || x.put(ev(1, s, 9)) != api.ErrOld {
			t.Fatal(s)
		}
		x.has("the next one")
	}
}

// P11.2: 64 events, and no more; ticks make room, what is old does not.
func TestPutIntoFull(t *testing.T) {
	x := newBench(t)
	for i := range mostEvents {
		if x.put(ev(i%3, i+1, 1+i/32)) != api.OK {
			t.Fatal(i)
		}
		x.has("filling")
	}
	x.sync()
	for _, y := range []struct {
		e    api.Event
		want api.Errno
	}{{ev(0, 65, 9), api.ErrFull}, {ev(9, 1, 9), api.ErrFull}, {ev(0, 64, 9), api.ErrOld}, {ev(0, 1, 9), api.ErrOld}, {ev(0, 1, 0), api.ErrArg}, {ev(0, 65, 0), api.ErrArg}, {ev(9, 1, 1001), api.ErrArg}} {
		if e := x.put(y.e); e != y.want {
			t.Fatal(y.e, e)
		}
		x.has("full")
	}
	x.tick(1)
	for i := range 32 {
		if x.put(ev(0, 100+i, 9)) != api.OK {
			t.Fatal(i)
		}
	}
	if x.put(ev(0, 200, 9)) != api.ErrFull || x.put(ev(1, 200, 9)) != api.ErrFull {
		t.Fatal("not full")
	}
	x.has("full again")
	x.reopen()
	x.has("full again, opened")
	if x.put(ev(0, 200, 9)) != api.ErrFull {
		t.Fatal("not full")
	}
}

// P11.2: 32 origins, and no more; their marks stay when their events are gone, so there is never room for others.
func TestPutOfManyOrigins(t *testing.T) {
	x := newBench(t)
	r := rand.New(rand.NewSource(113))
	for _, o := range r.Perm(mostOrigins) {
		if x.put(ev(2*o+1, 5, 1)) != api.OK {
			t.Fatal(o)
		}
		x.has("origins")
	}
	for range 3 {
		for _, o := range []int{0, 2, 30, 64, 65, most} {
			if x.put(ev(o, 1, 9)) != api.ErrFull || x.put(ev(o, most, 9)) != api.ErrFull || x.put(ev(o, 1, 0)) != api.ErrArg {
				t.Fatal(o)
			}
		}
		x.has("too many origins")
		if x.put(ev(63, x.now().seqs[63]+1, 1)) != api.OK || x.put(ev(1, 5, 1)) != api.ErrOld {
			t.Fatal("an origin with a mark")
		}
		x.tick(1000)
		x.has("too many origins, no event")
		x.reopen()
	}
}

// P11.2: Tick of 1 to 1000, and of no others: nothing changes.
func TestTickLimits(t *testing.T) {
	x := newBench(t)
	for _, ttl := range []int{1, 2, 3, 500, 999, 1000} {
		x.put(ev(1, ttl, ttl))
	}
	for _, n := range []int{0, -1, -1000, mostTtl + 1, mostTtl + 2, math.MinInt, math.MaxInt} {
		if x.tick(n) != api.ErrArg {
			t.Fatal(n)
		}
		x.has("wrong ticks")
	}
	for _, n := range []int{1, 1, 997, 1, 1000} {
		if x.tick(n) != api.OK {
			t.Fatal(n)
		}
		x.has("ticks")
	}
	if x.b.Room() != 64 || x.b.Count() != 6 || x.b.Seq(1) != 1000 {
		t.Error(x.b.Room(), x.b.Count(), x.b.Seq(1))
	}
	x.crashes("ticks")
}

// P11.2: every number of ticks, of events with every number of them left.
func TestEveryTick(t *testing.T) {
	for n := 1; n <= mostTtl; n++ {
		b := opened(t, disk.New())
		for i, ttl := range []int{1, n - 1, n, n + 1, mostTtl} {
			if ttl >= 1 && ttl <= mostTtl {
				b.Put(ev(i, 1, ttl))
			}
		}
		if e := b.Tick(n); e != api.OK {
			t.Fatal(n, e)
		}
		var want []api.Event
		if n < mostTtl {
			want = append(want, ev(3, 1, 1), ev(4, 1, mostTtl-n))
		}
		if l := b.List(); !slices.Equal(l, want) {
			t.Fatalf("Tick of %d: %v, want %v", n, l, want)
		}
	}
}

// P11.2: with 40 records the state is checked in, ahead of the next one, be that of a Put or of a Tick; what has an error checks nothing in.
func TestCheckIn(t *testing.T) {
	for _, last := range []string{"put", "tick"} {
		for _, first := range []string{"puts", "ticks", "both"} {
			x := newBench(t)
			for i := range mostRecords {
				if first == "puts" || first == "both" && i%2 == 0 {
					x.put(ev(i%5, i+1, 30+i))
				} else {
					x.tick(1)
				}
				x.has(first)
			}
			if x.now().round != 0 || len(x.now().records) != mostRecords {
				t.Fatal(x.now().round)
			}
			x.put(ev(0, 0, 1))
			x.put(ev(0, 1, 0))
			x.tick(0)
			x.tick(1001)
			if first != "ticks" {
				x.put(ev(0, 1, 1))
			}
			x.sync()
			x.has("40 records")
			if last == "put" {
				x.put(ev(0, 1000, 9))
			} else {
				x.tick(2)
			}
			if x.now().round != 1 || len(x.now().records) != 1 || x.d.Read(0) == "" {
				t.Fatal(x.now().round)
			}
			x.has("a state")
			x.crashes("a state")
		}
	}
}

// P11.2: a full book with 40 records: what finds no room checks nothing in.
func TestCheckInOfFull(t *testing.T) {
	x := newBench(t)
	for i := range 40 {
		x.put(ev(0, i+1, 900))
	}
	for i := range 24 {
		x.put(ev(1, i+1, 900))
	}
	for range 16 {
		x.tick(1)
	}
	for range 3 {
		if x.put(ev(0, 100, 1)) != api.ErrFull || len(x.now().records) != mostRecords || x.now().round != 1 {
			t.Fatal("not full")
		}
		x.has("full, 40 records")
	}
	x.tick(1)
	if x.now().round != 2 {
		t.Fatal(x.now().round)
	}
	x.has("full, a state")
	x.crashes("full, a state")
}

// P11.2: of a log that has more than 40 records the state is checked in ahead of the next one, too.
func TestCheckInOfMany(t *testing.T) {
	for n := 38; n < 45; n++ {
		p := fresh()
		for i := range n {
			p.put(ev(1, i+1, 100))
			p.records = append(p.records, "P"+raw(ev(1, i+1, 100)))
		}
		x := benchOf(t, diskOf("", p.file1(), true), p)
		x.has("many records")
		for range 3 {
			x.tick(1)
			x.has("many records, and more")
		}
		if x.now().round != min(1, max(0, n-37)) {
			t.Fatal(n, x.now().round)
		}
	}
}

// P11.2: a state of the greatest events, at the greatest places, is not too big for a log.
func TestCheckInOfTheGreatest(t *testing.T) {
	p := known()["full"]
	p.round, p.state = 1, p.bytes()
	x := benchOf(t, diskOf(p.file0(), "", true), p)
	for range 3 {
		for range mostRecords {
			x.tick(1)
		}
	}
	if x.now().round != 3 || x.b.Room() != 0 {
		t.Fatal(x.now().round, x.b.Room())
	}
	x.has("the greatest")
	x.reopen()
	x.has("the greatest, opened")
	x.tick(880)
	x.has("none left")
}

// P11.2: what the log has no room for is not done: others have filled its file.
func TestLogWithoutRoom(t *testing.T) {
	x := newBench(t)
	x.put(ev(1, 5, 9))
	x.d.Append(1, strings.Repeat("z", 65536-len(x.d.Read(1))))
	x.d.Sync()
	before := x.d.Copy()
	for range 2 {
		if e := x.b.Put(ev(1, 6, 9)); e != api.ErrBig {
			t.Fatal(e)
		}
		if e := x.b.Tick(1); e != api.ErrBig {
			t.Fatal(e)
		}
		tells(t, "no room", x.b, x.now())
		same(t, "no room", x.d, before)
	}
}

// P11.2: Sync is one of the whole disk.
func TestSync(t *testing.T) {
	x := newBench(t)
	x.put(ev(1, 5, 9))
	x.d.Append(2, "two")
	x.d.Replace(3, "three")
	if x.d.Kept(1) != "" {
		t.Error("sure ahead of a Sync")
	}
	x.sync()
	x.has("synced")
	if x.d.Kept(1) != x.d.Read(1) || x.d.Kept(2) != "two" || x.d.Kept(3) != "three" {
		t.Error("not sure behind a Sync")
	}
	var _ interface{ Sync() } = x.b
}

// P11.3: marks are told by rising origins, in whatever order their events came.
func TestMarksRise(t *testing.T) {
	r := rand.New(rand.NewSource(114))
	for range 50 {
		x := newBench(t)
		for _, o := range r.Perm(20) {
			x.put(ev(o<<r.Intn(36), 1+r.Intn(9), 9))
			tells(t, "marks", x.b, x.now())
		}
		x.has("marks")
	}
}

// P11.4: After goes over all events, in order, each once, also over gaps and behind what is gone.
func TestAfter(t *testing.T) {
	x := newBench(t)
	for i := range 30 {
		x.put(ev(i%4, i+1, 1+i%3))
	}
	for range 3 {
		var l []api.Event
		for e, place, is := x.b.After(0); is; e, place, is = x.b.After(place) {
			l = append(l, e)
		}
		if !slices.Equal(l, x.b.List()) {
			t.Errorf("%v, want %v", l, x.b.List())
		}
		x.has("places")
		x.tick(1)
	}
	if e, place, is := x.b.After(0); e != (api.Event{}) || place != 0 || is {
		t.Error(e, place, is)
	}
	x.put(ev(0, 100, 9))
	if _, place, is := x.b.After(7); place != 31 || !is {
		t.Error(place, is)
	}
}

// P11.4: marks in any order, of an origin twice or more, of origins that are none, with numbers that are none.
func TestMissing(t *testing.T) {
	x := newBench(t)
	for i := range 12 {
		x.put(ev(i%3, i+1, 20))
	}
	x.tick(3)
	for _, l := range [][]api.Mark{
		{}, {{Origin: 2, Seq: 5}, {Origin: 0, Seq: 1}}, {{Origin: 1, Seq: 100}, {Origin: 1, Seq: 5}}, {{Origin: 1, Seq: 5}, {Origin: 1, Seq: 100}}, {{Origin: 1, Seq: 5}, {Origin: 1, Seq: 0}},
		{{Origin: 0, Seq: -7}, {Origin: 1, Seq: math.MinInt}, {Origin: 2, Seq: math.MaxInt}}, {{Origin: 0, Seq: math.MaxInt}, {Origin: 0, Seq: -1}}, {{Origin: -1, Seq: 99}, {Origin: most + 1, Seq: 99}, {Origin: 3, Seq: 99}},
		{{Origin: 0, Seq: 10}, {Origin: 1, Seq: 11}, {Origin: 2, Seq: 12}}, {{Origin: 0, Seq: 9}, {Origin: 1, Seq: 10}, {Origin: 2, Seq: 11}},
	} {
		before := slices.Clone(l)
		wantMissing(t, "marks", x.b, x.now(), l)
		if !slices.Equal(l, before) {
			t.Errorf("%v becomes %v", before, l)
		}
	}
	r := rand.New(rand.NewSource(115))
	for range 3000 {
		var l []api.Mark
		for range r.Intn(8) {
			l = append(l, api.Mark{Origin: r.Intn(5) - 1, Seq: r.Intn(16) - 2})
		}
		wantMissing(t, "marks by chance", x.b, x.now(), l)
	}
	many := make([]api.Mark, 100000)
	for i := range many {
		many[i] = api.Mark{Origin: i % 4, Seq: i % 13}
	}
	wantMissing(t, "many marks", x.b, x.now(), many)
	x.has("asked")
}

// P11.2 to P11.5: every row of up to 4 calls of few events and ticks, and behind it a crash with every number of units.
func TestEveryRow(t *testing.T) {
	calls := []func(x *bench){
		func(x *bench) { x.put(ev(1, 1, 1)) },
		func(x *bench) { x.put(ev(1, 2, 2)) },
		func(x *bench) { x.put(ev(0, 1, 3)) },
		func(x *bench) { x.tick(1) },
		func(x *bench) { x.sync() },
	}
	var rows func(row []int, left int)
	rows = func(row []int, left int) {
		x := newBench(t)
		for _, i := range row {
			calls[i](x)
		}
		x.has("a row")
		x.crashes("a row")
		if left == 0 {
			return
		}
		for i := range calls {
			rows(append(row[:len(row):len(row)], i), left-1)
		}
	}
	rows(nil, 4)
}

// P11.5: behind a crash around a state that is checked in, with every number of units, and behind a second one.
func TestCrashAroundCheckIn(t *testing.T) {
	x := newBench(t)
	for i := range 37 {
		x.put(ev(i%3, i+1, 1+i%7))
		if i == 20 {
			x.sync()
		}
	}
	for i := range 8 {
		x.put(ev(i%3, 50+i, 5))
		x.tick(1)
		x.has("around")
	}
	x.crashes("around")
	for n := range x.units() + 1 {
		c := &bench{t, x.d.Copy(), nil, slices.Clone(x.since)}
		c.crash(n)
		c.put(ev(7, 1, 3))
		c.tick(2)
		c.has("crashed, and on")
		c.crash(c.units() - 1)
		c.has("crashed twice")
	}
}

// rising holds that marks did not go back since some were told, and that of an origin the numbers of the events rise.
func rising(t *testing.T, b *book.Book, before []api.Mark) {
	t.Helper()
	for _, m := range before {
		if b.Seq(m.Origin) < m.Seq {
			t.Fatalf("mark %d goes back from %d to %d", m.Origin, m.Seq, b.Seq(m.Origin))
		}
	}
	last := map[int]int{}
	for _, e := range b.List() {
		if e.Seq <= last[e.Origin] || e.Seq > b.Seq(e.Origin) || e.Ttl < 1 {
			t.Fatalf("%v behind %d", e, last[e.Origin])
		}
		last[e.Origin] = e.Seq
	}
}

// P11.1 to P11.5, R2, R5: long rows of calls by chance, in which the disk crashes, and the book is opened again and goes on.
func TestByChance(t *testing.T) {
	r := rand.New(rand.NewSource(11))
	bad := wrong()
	for range 30 {
		x := newBench(t)
		origins, ticks := 1+r.Intn(45), 1+r.Intn(100)
		for range 300 {
			before := x.b.Marks()
			switch n := r.Intn(100); {
			case n < 70:
				o := r.Intn(origins)
				e := ev(o, max(1, x.now().seqs[o]+1+r.Intn(4)-r.Intn(5)/4*r.Intn(5)), 1+r.Intn(ticks))
				x.put(e)
			case n < 73:
				x.put(bad[r.Intn(len(bad))])
			case n < 88:
				x.tick(1 + r.Intn(4))
			case n < 90:
				x.tick(r.Intn(1200) - 100)
			case n < 95:
				x.sync()
			case n < 98:
				x.reopen()
			default:
				x.crash(r.Intn(x.units()+4) - 2)
				before = nil
			}
			x.has("by chance")
			rising(t, x.b, before)
		}
		x.crashes("by chance")
	}
}

// R7: books of a disk and of its copy go each their own way.
func TestBooksOfCopies(t *testing.T) {
	x := newBench(t)
	for i := range 39 {
		x.put(ev(1, i+1, 50))
	}
	y := benchOf(t, x.d.Copy(), x.now().copy())
	for i := range 6 {
		x.put(ev(1, 100+i, 9))
		y.tick(1 + i)
		y.put(ev(2, 1+i, 9))
		x.has("the one")
		y.has("the other one")
	}
	x.crashes("the one")
	y.crashes("the other one")
}

// R4: what is handed in is not kept: when its memory changes, neither the book does, nor its disk.
func TestKeepsNothing(t *testing.T) {
	topic, load := []byte("a/b"), []byte("xyz")
	e := api.Event{Origin: 1, Seq: 5, Topic: unsafe.String(&topic[0], 3), Load: unsafe.String(&load[0], 3), Ttl: 9}
	x := newBench(t)
	x.b.Put(e)
	e.Topic, e.Load = "a/b", "xyz"
	x.note("P" + event.Put(e))
	x.now().put(e)
	copy(topic, "zzz")
	copy(load, "aaa")
	x.has("changed")
	x.tick(1)
	x.has("changed, older")
	x.crashes("changed")
}

// R4: lists that were told are the caller's: when they change, also in the room behind them, nothing else does.
func TestListsAreNew(t *testing.T) {
	events := func(l []api.Event) {
		for i := range l[:cap(l)] {
			l[:cap(l)][i] = ev(99, 99, 99)
		}
	}
	for n := range 20 {
		x := newBench(t)
		for i := range n {
			x.put(ev(i, i+1, 9))
			l, m, old := x.b.List(), x.b.Marks(), x.b.Missing(nil)
			x.has("told")
			if len(l) != i+1 || len(m) != i+1 || len(old) != i+1 || l[i] != old[i] || m[i].Seq != i+1 {
				t.Fatal(l, m, old)
			}
			events(l)
			if slices.ContainsFunc(old, func(e api.Event) bool { return e.Origin == 99 }) {
				t.Fatal("two answers share a list")
			}
			events(old)
			for i := range m[:cap(m)] {
				m[:cap(m)][i] = api.Mark{Origin: 99, Seq: 99}
			}
			x.has("spoiled")
		}
		l, m := x.b.List(), x.b.Marks()
		x.put(ev(50, 50, 50))
		x.tick(8)
		if len(l) != n || len(m) != n || n > 0 && (l[n-1] != ev(n-1, n, 9) || m[n-1] != api.Mark{Origin: n - 1, Seq: n}) {
			t.Fatalf("what was told has changed: %v, %v", l, m)
		}
		x.reopen()
		x.has("opened")
	}
}

// R4: what is answered is new memory: no text of an answer is where one is that was handed in, or told by another call.
func TestTextsAreNew(t *testing.T) {
	e := api.Event{Origin: 1, Seq: 5, Topic: longTopic, Load: longLoad, Ttl: 9}
	texts := []string{e.Topic, e.Load}
	d := disk.New()
	b := opened(t, d)
	b.Put(e)
	tell := func() {
		for range 2 {
			x, _, _ := b.After(0)
			for _, e := range append(append(b.List(), b.Missing(nil)...), x) {
				texts = append(texts, e.Topic, e.Load)
			}
			texts = append(texts, d.Read(0), d.Read(1))
		}
	}
	tell()
	b.Tick(1)
	tell()
	b = opened(t, d)
	tell()
	for i := range 45 {
		b.Put(ev(2, i+1, 1))
		b.Tick(1 + i/44)
		if i == 44 {
			b = opened(t, d)
		}
	}
	tell()
	for i := range texts {
		for j := range i {
			if overlap(texts[i], texts[j]) || overlap(texts[j], texts[i]) {
				t.Errorf("texts %d and %d of %d share memory", j, i, len(texts))
			}
		}
	}
}

func overlap(whole, s string) bool {
	at := uintptr(unsafe.Pointer(unsafe.StringData(s)))
	begin := uintptr(unsafe.Pointer(unsafe.StringData(whole)))
	return len(s) > 0 && begin <= at && at < begin+uintptr(len(whole))
}
