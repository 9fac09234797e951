package wal_test

import (
	"math"
	"math/rand"
	"slices"
	"strconv"
	"strings"
	"testing"
	"unsafe"

	"rivulet/api"
	"rivulet/check"
	"rivulet/disk"
	"rivulet/varint"
	"rivulet/wal"
)

const (
	files      = 4
	mostFile   = 65536
	mostRecord = 1024
	mostState  = 16384
)

// sealed is what stands on a disk of a state, or of a record, of a round.
func sealed(round uint64, s string) string {
	return check.Seal(varint.Put(round) + s)
}

// odd are texts of which a log must make nothing of its own, among them such as it writes itself.
var odd = []string{"", "\x00", "\xff\xfe", "a\n", "é", " ", "\x00\x00\x00\x00\x00", sealed(0, "a"), sealed(1, "a") + sealed(1, "b"), strings.Repeat("\xf1", 300)}

// rounds are those at which the bytes of a number get more, and the greatest one.
var rounds = []uint64{0, 1, 2, 239, 240, 241, 2287, 2288, 67823, 67824, 1<<24 - 1, 1 << 24, 1<<32 - 1, 1 << 32, 1<<40 - 1, api.MaxNum}

// moment is what a log has at one moment.
type moment struct {
	round   int
	state   string
	records []string
}

// file0 and file1 are what the document says that a disk has of it; a log whose state was never checked in has no file 0.
func (m moment) file0() string {
	if m.round == 0 {
		return ""
	}
	return sealed(uint64(m.round), m.state)
}

func (m moment) file1() string {
	out := ""
	for _, r := range m.records {
		out += sealed(uint64(m.round), r)
	}
	return out
}

// change is what was done since a Sync: behind so many units of it this is the moment, and it has so many in all.
type change struct {
	done, units int
	to          moment
}

// plain is a log as the document's words have it: what there was at the last Sync, and what was done since.
type plain struct {
	kept  moment
	since []change
	sure  int
}

func (p *plain) now() moment {
	if len(p.since) == 0 {
		return p.kept
	}
	return p.since[len(p.since)-1].to
}

func (p *plain) units() int {
	n := 0
	for _, c := range p.since {
		n += c.units
	}
	return n
}

// append does an Append, and tells what is answered.
func (p *plain) append(record string) api.Errno {
	m := p.now()
	row := sealed(uint64(m.round), record)
	if len(record) > mostRecord || len(m.file1())+len(row) > mostFile {
		return api.ErrBig
	}
	m.records = append(slices.Clone(m.records), record)
	p.since = append(p.since, change{len(row), len(row), m})
	return api.OK
}

// check does a Check, and tells what is answered: its first unit, of two, is all of it.
func (p *plain) check(state string) api.Errno {
	if len(state) > mostState {
		return api.ErrBig
	}
	p.since = append(p.since, change{1, 2, moment{p.now().round + 1, state, nil}})
	p.sure = 0
	return api.OK
}

func (p *plain) sync() {
	p.kept, p.since = p.now(), nil
	p.sure = len(p.kept.records)
}

// crash leaves the first so many units, and opens the log again.
func (p *plain) crash(units int) {
	for _, c := range p.since {
		if units < c.done {
			break
		}
		p.kept = c.to
		units -= c.units
	}
	p.since = nil
	p.sync()
}

func (p *plain) copy() *plain {
	return &plain{p.kept, slices.Clone(p.since), p.sure}
}

// step is one call: an Append, a Check or a Sync.
type step struct {
	call string
	s    string
}

// do does a call to a log, and the same to a plain one, and holds what they answer against each other.
func (x step) do(t *testing.T, l *wal.Log, p *plain) {
	t.Helper()
	var got, want api.Errno
	switch x.call {
	case "append":
		got, want = l.Append(x.s), p.append(x.s)
	case "check":
		got, want = l.Check(x.s), p.check(x.s)
	case "sync":
		l.Sync()
		p.sync()
	}
	if got != want {
		t.Fatalf("%s of %s: %d, want %d", x.call, short(x.s), got, want)
	}
}

// short tells a text, or so much of it that it can be read.
func short(s string) string {
	if len(s) > 60 {
		return strconv.Quote(s[:20]) + ".. of " + strconv.Itoa(len(s))
	}
	return strconv.Quote(s)
}

// opened is the log of a disk, that must have one.
func opened(t *testing.T, d *disk.Disk) *wal.Log {
	t.Helper()
	l, e := wal.Open(d)
	if e != api.OK || l == nil {
		t.Fatalf("Open of %s and %s: %d", short(d.Read(0)), short(d.Read(1)), e)
	}
	return l
}

// tells holds what a log tells, and goes on telling, against a moment, and how much of it is sure.
func tells(t *testing.T, name string, l *wal.Log, m moment, sure int) {
	t.Helper()
	for range 2 {
		if s := l.State(); s != m.state {
			t.Fatalf("%s: State %s, want %s", name, short(s), short(m.state))
		}
		if r := l.Records(); !slices.Equal(r, m.records) {
			t.Fatalf("%s: Records %.40q (%d), want %.40q (%d)", name, r, len(r), m.records, len(m.records))
		}
		if n := l.Round(); n != m.round {
			t.Fatalf("%s: Round %d, want %d", name, n, m.round)
		}
		if n := l.Sure(); n != sure {
			t.Fatalf("%s: Sure %d, want %d", name, n, sure)
		}
	}
}

// has holds a log, and its disk, on which nothing was but what the log made, against a plain one.
func has(t *testing.T, name string, d *disk.Disk, l *wal.Log, p *plain) {
	t.Helper()
	m := p.now()
	tells(t, name, l, m, p.sure)
	if s, want := d.Read(0), m.file0(); s != want {
		t.Fatalf("%s: file 0 %s, want %s", name, short(s), short(want))
	}
	if s, want := d.Read(1), m.file1(); s != want {
		t.Fatalf("%s: file 1 %s, want %s", name, short(s), short(want))
	}
	if n := d.Units(); n != p.units() {
		t.Fatalf("%s: Units %d, want %d", name, n, p.units())
	}
}

// crashes lets copies of a disk crash with every number of units, and holds what is opened then against the plain one.
func crashes(t *testing.T, name string, d *disk.Disk, p *plain) {
	t.Helper()
	for n := -1; n <= p.units()+1; n++ {
		c, q := d.Copy(), p.copy()
		c.Crash(n)
		q.crash(n)
		has(t, name+", crash with "+strconv.Itoa(n), c, opened(t, c), q)
	}
}

// both are an empty disk's log and a plain one, to which the same was done.
func both(t *testing.T, steps ...step) (*disk.Disk, *wal.Log, *plain) {
	t.Helper()
	d, p := disk.New(), &plain{}
	l := opened(t, d)
	for _, x := range steps {
		x.do(t, l, p)
	}
	return d, l, p
}

// diskOf is a disk with these files 0 and 1, and others, of which some is sure: all, if sure, else just what stood there ahead.
func diskOf(file0, file1 string, sure bool) *disk.Disk {
	d := disk.New()
	d.Append(0, "old 0")
	d.Append(1, "old 1")
	d.Append(2, "two")
	d.Sync()
	d.Replace(0, file0)
	d.Replace(1, file1)
	d.Append(2, ", more")
	d.Replace(3, "three")
	if sure {
		d.Sync()
	}
	return d
}

// same holds that two disks cannot be told from each other, also behind a crash.
func same(t *testing.T, name string, a, b *disk.Disk) {
	t.Helper()
	for n := -1; n <= b.Units(); n++ {
		c, d := a.Copy(), b.Copy()
		if a.Units() != b.Units() || c.Crash(n) != d.Crash(n) {
			t.Fatalf("%s: %d units, want %d", name, a.Units(), b.Units())
		}
		for f := range files {
			if a.Read(f) != b.Read(f) || a.Kept(f) != b.Kept(f) || c.Read(f) != d.Read(f) {
				t.Fatalf("%s: file %d: %s, want %s; behind a crash with %d %s, want %s", name, f, short(a.Read(f)), short(b.Read(f)), n, short(c.Read(f)), short(d.Read(f)))
			}
		}
	}
}

// wantOpen opens files 0 and 1, and holds what the log tells, and what the disk has then, against a moment.
func wantOpen(t *testing.T, name, file0, file1 string, m moment) {
	t.Helper()
	for _, sure := range []bool{false, true} {
		d := diskOf(file0, file1, sure)
		tells(t, name, opened(t, d), m, len(m.records))
		for f, want := range [files]string{file0, m.file1(), "two, more", "three"} {
			if d.Read(f) != want || d.Kept(f) != want {
				t.Fatalf("%s: file %d: %s, kept %s, want %s", name, f, short(d.Read(f)), short(d.Kept(f)), short(want))
			}
		}
		if n := d.Units(); n != 0 {
			t.Fatalf("%s: not synced: %d units", name, n)
		}
		before := d.Copy()
		tells(t, name+", once more", opened(t, d), m, len(m.records))
		same(t, name+", once more", d, before)
	}
}

// wantError opens a file 0 that may not be, with any file 1: no log, and the disk as it was.
func wantError(t *testing.T, name, file0 string, want api.Errno) {
	t.Helper()
	for _, file1 := range []string{"", "zz", sealed(0, "a"), sealed(1, "a") + "z"} {
		for _, sure := range []bool{false, true} {
			d := diskOf(file0, file1, sure)
			before := d.Copy()
			if l, e := wal.Open(d); l != nil || e != want {
				t.Fatalf("%s: Open of %s: %t, %d, want %d", name, short(file0), l != nil, e, want)
			}
			same(t, name, d, before)
		}
	}
}

// P10.1, P10.3: the log of an empty disk has nothing, and makes nothing there.
func TestNew(t *testing.T) {
	d := disk.New()
	l := opened(t, d)
	has(t, "new", d, l, &plain{})
	crashes(t, "new", d, &plain{})
	same(t, "new", d, disk.New())
	wantOpen(t, "empty files", "", "", moment{})
}

// P10.4: the document's example.
func TestExample(t *testing.T) {
	d, l, _ := both(t)
	if e := l.Append("a"); e != api.OK {
		t.Fatal(e)
	}
	l.Sync()
	if e := l.Append("b"); e != api.OK {
		t.Fatal(e)
	}
	d.Crash(0)
	if r := opened(t, d).Records(); !slices.Equal(r, []string{"a"}) {
		t.Errorf("%q", r)
	}
}

// P10.1, P10.2: what stands on the disk, byte by byte.
func TestBytes(t *testing.T) {
	d, l, _ := both(t)
	l.Append("a")
	l.Append("")
	rows := "\x02\x00\x61\x31\x43\x6c\x7b" + "\x01\x00\x8d\xef\x02\xd2"
	if d.Read(0) != "" || d.Read(1) != rows {
		t.Errorf("%x, %x", d.Read(0), d.Read(1))
	}
	l.Check("a")
	if d.Read(0) != "\x02\x01\x61\x70\x72\x77\x62" || d.Read(1) != "" {
		t.Errorf("%x, %x", d.Read(0), d.Read(1))
	}
}

// P10.1: check.Open's errors, ahead of all others.
func TestOpenOfNoSeal(t *testing.T) {
	for _, state := range []string{"", "q", "\x00", strings.Repeat("s", 300)} {
		s := sealed(1, state)
		for n := 1; n < len(s); n++ {
			wantError(t, "cut off", s[:n], api.ErrShort)
		}
		from := len(s) - 4 - len(varint.Put(1)+state)
		for bit := from * 8; bit < len(s)*8; bit++ {
			b := []byte(s)
			b[bit/8] ^= 1 << (bit % 8)
			wantError(t, "bit "+strconv.Itoa(bit), string(b), api.ErrSum)
			wantError(t, "bit "+strconv.Itoa(bit)+", and more", string(b)+"x", api.ErrSum)
		}
	}
	for s, want := range map[string]api.Errno{
		"x":                            api.ErrShort,
		"\x00":                         api.ErrShort,
		"\xf1":                         api.ErrShort,
		"\xf1\x00":                     api.ErrForm,
		"\xf1\x00\x00\x00\x00\x00":     api.ErrForm,
		"\xfa\x00\x00\x01\x01":         api.ErrForm,
		varint.Put(mostFile):           api.ErrShort,
		varint.Put(mostFile + 1):       api.ErrBig,
		varint.Put(math.MaxUint64):     api.ErrBig,
		"\x00\x00\x00\x00\x01":         api.ErrSum,
		"\x01q\x00\x00\x00\x00":        api.ErrSum,
		"\x02\x01q\x00\x00\x00\x00xyz": api.ErrSum,
		"\x01\xff\xff\xff\xff\xff":     api.ErrSum,
	} {
		wantError(t, "no seal", s, want)
	}
}

// P10.1, R2: what stands behind is told ahead of what is wrong with the round.
func TestOpenOfMore(t *testing.T) {
	for _, s := range []string{sealed(0, ""), sealed(1, ""), sealed(1, "q"), sealed(api.MaxNum, "q"), sealed(1<<40+1, "q"), check.Seal(""), check.Seal("\xf1"), check.Seal("\xf1\x00")} {
		for _, more := range []string{"\x00", "x", "\xff\xff", s, sealed(2, "r"), "\x00\x00\x00\x00\x00"} {
			wantError(t, "more", s+more, api.ErrForm)
		}
	}
}

// P10.1: varint.Get's errors of the round.
func TestOpenOfNoRound(t *testing.T) {
	for s, want := range map[string]api.Errno{
		"":                                     api.ErrShort,
		"\xf1":                                 api.ErrShort,
		"\xf9\x00":                             api.ErrShort,
		"\xfa\x01\x11":                         api.ErrShort,
		"\xff\x00\x00\x00\x00\x00\x00\x00":     api.ErrShort,
		"\xf1\x00":                             api.ErrForm,
		"\xf1\x00q":                            api.ErrForm,
		"\xfa\x00\x00\x01q":                    api.ErrForm,
		"\xff\x00\x00\x00\x00\x00\x00\x00\x01": api.ErrForm,
	} {
		wantError(t, "no round", check.Seal(s), want)
	}
}

// P10.1: rounds up to 2^40, and none above.
func TestOpenRounds(t *testing.T) {
	for _, n := range rounds {
		for _, state := range odd {
			m := moment{int(n), state, nil}
			wantOpen(t, "a round", sealed(n, state), "", m)
			m.records = []string{"a", "", state}
			wantOpen(t, "a round, and records", sealed(n, state), m.file1(), m)
		}
	}
	for _, n := range []uint64{1<<40 + 1, 1<<40 + 2, 1 << 41, 1<<48 - 1, 1 << 62, 1<<63 - 1, 1 << 63, math.MaxUint64} {
		for _, state := range []string{"", "q"} {
			wantError(t, "a round that is too great", sealed(n, state), api.ErrForm)
		}
	}
}

// piece is a part of file 1: a row of the log's round, with a record; one that is passed over; or one behind which nothing is read.
type piece struct {
	s      string
	own    bool
	stop   bool
	record string
}

// pieces are parts of file 1 of a log of that round.
func pieces(round uint64) []piece {
	bad := []byte(sealed(round, "bad"))
	bad[3] ^= 4
	return []piece{
		{s: sealed(round, "a"), own: true, record: "a"},
		{s: sealed(round, ""), own: true},
		{s: sealed(round, "\xf1\x00"), own: true, record: "\xf1\x00"},
		{s: sealed(round+1, "later")},
		{s: sealed(round+256, "much later")},
		{s: sealed(round^1<<40, "far")},
		{s: sealed(round+1<<63, "")},
		{s: check.Seal(""), stop: true},
		{s: check.Seal("\xf1"), stop: true},
		{s: check.Seal("\xf1\x00none"), stop: true},
		{s: check.Seal("\xff\x00\x00\x00\x00\x00\x00\x00\x01"), stop: true},
		{s: "\xff", stop: true},
		{s: "\x05cut", stop: true},
		{s: string(bad), stop: true},
	}
}

// P10.1: all rows of up to 3 pieces, in rounds of which the numbers have one, two, three and more bytes.
func TestOpenPieces(t *testing.T) {
	for _, round := range []uint64{0, 1, 240, 2288, api.MaxNum} {
		file0 := sealed(round, "state")
		m := moment{int(round), "state", nil}
		if round == 0 {
			file0, m.state = "", ""
		}
		all := pieces(round)
		var rows func(file1 string, records []string, stopped bool, left int)
		rows = func(file1 string, records []string, stopped bool, left int) {
			m.records = records
			wantOpen(t, "pieces", file0, file1, m)
			if left == 0 {
				return
			}
			for _, x := range all {
				list := slices.Clone(records)
				if x.own && !stopped {
					list = append(list, x.record)
				}
				// Behind bytes that are no whole row, others could make one of them: none does, of these pieces.
				rows(file1+x.s, list, stopped || x.stop, left-1)
			}
		}
		rows("", nil, false, 3)
	}
}

// P10.1: a round 0 may stand in file 0, too: then there is a state, and the records are those of round 0.
func TestOpenOfRoundNone(t *testing.T) {
	wantOpen(t, "round 0", sealed(0, "q"), sealed(0, "a")+sealed(1, "b"), moment{0, "q", []string{"a"}})
	wantOpen(t, "round 0, nothing", sealed(0, ""), sealed(0, "a"), moment{0, "", []string{"a"}})
	d := diskOf(sealed(0, "q"), sealed(0, "a"), true)
	l := opened(t, d)
	l.Append("b")
	tells(t, "round 0, and more", l, moment{0, "q", []string{"a", "b"}}, 1)
	l.Check("r")
	tells(t, "round 0, and a state", l, moment{1, "r", nil}, 0)
	if d.Read(0) != sealed(1, "r") || d.Read(1) != "" {
		t.Errorf("%x, %x", d.Read(0), d.Read(1))
	}
}

// P10.1, P10.4: rows that are cut off anywhere, or of which a bit is turned: the first ones, that are whole.
func TestOpenOfSpoiledRows(t *testing.T) {
	m := moment{3, "q", []string{"a", "", "bcd", strings.Repeat("e", 250), "f"}}
	file := m.file1()
	whole := func(end int) moment {
		first := moment{3, "q", nil}
		for _, r := range m.records {
			if end -= len(sealed(3, r)); end < 0 {
				break
			}
			first.records = append(first.records, r)
		}
		return first
	}
	for n := range len(file) + 1 {
		wantOpen(t, "cut off", m.file0(), file[:n], whole(n))
		wantOpen(t, "cut off, and more", m.file0(), file[:n]+"\xff"+file, whole(n))
	}
	for bit := range len(file) * 8 {
		b := []byte(file)
		b[bit/8] ^= 1 << (bit % 8)
		wantOpen(t, "bit "+strconv.Itoa(bit), m.file0(), string(b), whole(bit/8))
	}
}

// P10.1: what is there counts, also when no Append and no Check could have put it there: only these have limits.
func TestOpenOfGreatOnes(t *testing.T) {
	for _, n := range []int{mostRecord, mostRecord + 1, 60000, mostFile - 9} {
		m := moment{0, "", []string{strings.Repeat("r", n)}}
		if n < 60000 {
			m.records = append(m.records, "a", m.records[0])
		}
		wantOpen(t, "a great record", "", m.file1(), m)
	}
	for _, n := range []int{mostState, mostState + 1, mostFile - 8} {
		m := moment{1, strings.Repeat("s", n), []string{"a"}}
		wantOpen(t, "a great state", m.file0(), m.file1(), m)
	}
	l := opened(t, diskOf(sealed(1, strings.Repeat("s", mostState+1)), sealed(1, strings.Repeat("r", mostRecord+1)), true))
	if l.Check(l.State()) != api.ErrBig || l.Append(l.Records()[0]) != api.ErrBig {
		t.Error("a limit holds no more")
	}
}

// P10.1: a file full of rows, of which all, some or none are the log's.
func TestOpenOfManyRows(t *testing.T) {
	var list []string
	var file, mixed strings.Builder
	for i := range mostFile / 14 {
		r := strconv.Itoa(i%90 + 10)
		list = append(list, r)
		file.WriteString(sealed(7, r))
		mixed.WriteString(sealed(7, r) + check.Seal("\x06"))
	}
	wantOpen(t, "many rows", sealed(7, "q"), file.String(), moment{7, "q", list})
	wantOpen(t, "rows of two rounds", sealed(7, "q"), mixed.String(), moment{7, "q", list})
	wantOpen(t, "rows of another round", sealed(8, "q"), file.String(), moment{8, "q", nil})
}

// P10.1: behind what was put away new records are read, once they are put in.
func TestOpenGoesOn(t *testing.T) {
	for _, round := range []uint64{0, 1, 300} {
		for _, x := range pieces(round) {
			file0 := sealed(round, "q")
			d := diskOf(file0, sealed(round, "first")+x.s, false)
			l := opened(t, d)
			m := moment{int(round), "q", []string{"first"}}
			if x.own {
				m.records = append(m.records, x.record)
			}
			sure := len(m.records)
			for _, r := range []string{"more", "", "and more"} {
				if e := l.Append(r); e != api.OK {
					t.Fatal(e)
				}
				m.records = append(m.records, r)
				tells(t, "goes on", l, m, sure)
			}
			if d.Read(0) != file0 || d.Read(1) != m.file1() {
				t.Fatalf("%x, %x", d.Read(0), d.Read(1))
			}
			tells(t, "goes on, opened", opened(t, d.Copy()), m, len(m.records))
			d.Crash(0)
			m.records = m.records[:sure]
			tells(t, "goes on, crashed", opened(t, d), m, sure)
		}
	}
}

// P10.2: a record may have 1024 bytes, and no more; of more nothing changes.
func TestAppendLimit(t *testing.T) {
	d, l, p := both(t, step{"check", "q"}, step{"append", "a"}, step{"sync", ""}, step{"append", "b"})
	for _, n := range []int{mostRecord + 1, mostRecord + 2, 2 * mostRecord, mostFile, mostFile + 1, 1 << 20} {
		if e := l.Append(strings.Repeat("x", n)); e != api.ErrBig {
			t.Fatalf("%d bytes: %d", n, e)
		}
		has(t, "too big", d, l, p)
	}
	for _, n := range []int{0, 1, 238, 239, 240, mostRecord - 1, mostRecord} {
		step{"append", strings.Repeat("x", n)}.do(t, l, p)
		has(t, "big", d, l, p)
	}
	crashes(t, "big", d, p)
}

// P10.2: disk.Append's error, when file 1 would have more than 65536 bytes: nothing changes; what has room goes in.
func TestAppendToAFullFile(t *testing.T) {
	for _, room := range []int{0, 1, 5, 6, 7, 8, 100} {
		d, l, p := both(t)
		for len(d.Read(1)) < mostFile-2000 {
			step{"append", strings.Repeat("x", mostRecord)}.do(t, l, p)
		}
		for left := mostFile - room - len(d.Read(1)); left > 0; left = mostFile - room - len(d.Read(1)) {
			size := min(left, 200)
			if left < 400 && left > 200 {
				size = left / 2
			}
			step{"append", strings.Repeat("y", size-6)}.do(t, l, p)
		}
		if len(d.Read(1)) != mostFile-room {
			t.Fatalf("%d bytes", len(d.Read(1)))
		}
		p.sync()
		l.Sync()
		for _, n := range []int{max(room-6, -1) + 1, 300, mostRecord, mostRecord + 1} {
			if e := l.Append(strings.Repeat("z", n)); e != api.ErrBig {
				t.Fatalf("room %d, a record of %d: %d", room, n, e)
			}
			has(t, "full", d, l, p)
		}
		if room >= 6 {
			step{"append", strings.Repeat("z", room-6)}.do(t, l, p)
			has(t, "just full", d, l, p)
			step{"append", ""}.do(t, l, p)
			has(t, "just full, once more", d, l, p)
		}
		for _, x := range []step{{"check", "q"}, {"append", strings.Repeat("a", mostRecord)}, {"append", ""}} {
			x.do(t, l, p)
			has(t, "full, and a Check", d, l, p)
		}
	}
}

// P10.2: the same near the limit of the file behind a round of more bytes, so that the rows are longer.
func TestAppendByRounds(t *testing.T) {
	for _, n := range rounds {
		for _, more := range []int{0, 1} {
			row := len(sealed(n, "ab"))
			ahead := sealed(n, strings.Repeat("x", mostFile-row-len(sealed(n, ""))-2+more))
			if len(ahead)+row != mostFile+more {
				t.Fatal(len(ahead), row)
			}
			d := diskOf(sealed(n, "q"), ahead, true)
			l := opened(t, d)
			want := api.OK
			if more > 0 {
				want = api.ErrBig
			}
			if e := l.Append("ab"); e != want || len(l.Records()) != 2-more || l.Sure() != 1 {
				t.Fatalf("round %d: %d, want %d; %d records, %d sure", n, e, want, len(l.Records()), l.Sure())
			}
			if s := d.Read(1); s != ahead+sealed(n, "ab")[:row*(1-more)] {
				t.Fatalf("round %d: %d bytes", n, len(s))
			}
		}
	}
}

// P10.2: a state may have 16384 bytes, and no more; of more nothing changes.
func TestCheckLimit(t *testing.T) {
	d, l, p := both(t, step{"check", "q"}, step{"append", "a"}, step{"sync", ""}, step{"append", "b"})
	for _, n := range []int{mostState + 1, mostState + 2, 2 * mostState, mostFile, mostFile + 1, 1 << 20} {
		if e := l.Check(strings.Repeat("x", n)); e != api.ErrBig {
			t.Fatalf("%d bytes: %d", n, e)
		}
		has(t, "too big", d, l, p)
	}
	crashes(t, "too big", d, p)
	for _, n := range []int{0, 1, 239, 240, mostState - 1, mostState} {
		step{"check", strings.Repeat("x", n)}.do(t, l, p)
		has(t, "big", d, l, p)
		step{"append", "c"}.do(t, l, p)
		has(t, "big, and a record", d, l, p)
	}
	crashes(t, "big", d, p)
}

// P10.2: a Check writes the state first, and then puts the rows away: two units, of which the first one does it.
func TestCheckWritesInOrder(t *testing.T) {
	for units, want := range [][2]string{
		{sealed(1, "q"), sealed(1, "a")},
		{sealed(2, "r"), sealed(1, "a")},
		{sealed(2, "r"), ""},
	} {
		d, l, _ := both(t, step{"check", "q"}, step{"append", "a"}, step{"sync", ""})
		if e := l.Check("r"); e != api.OK || d.Units() != 2 {
			t.Fatal(e, d.Units())
		}
		d.Crash(units)
		if d.Read(0) != want[0] || d.Read(1) != want[1] {
			t.Errorf("%d units: %x, %x", units, d.Read(0), d.Read(1))
		}
	}
}

// P10.2: each Check is a round, be the state what it was, or empty; a record does not outlive it.
func TestCheckRounds(t *testing.T) {
	d, l, p := both(t)
	for i := range 300 {
		step{"check", odd[i/2%len(odd)]}.do(t, l, p)
		has(t, "a Check", d, l, p)
		for range i % 3 {
			step{"append", odd[i%len(odd)]}.do(t, l, p)
			has(t, "a record", d, l, p)
		}
		if l.Round() != i+1 {
			t.Fatal(l.Round())
		}
		tells(t, "opened", opened(t, d.Copy()), p.now(), len(p.now().records))
	}
}

// P10.2: from any round a Check makes the next one, also behind the greatest one that is opened.
func TestCheckBehindAnyRound(t *testing.T) {
	for _, n := range rounds {
		d := diskOf(sealed(n, "q"), sealed(n, "a"), true)
		l := opened(t, d)
		if e := l.Check("r"); e != api.OK {
			t.Fatal(e)
		}
		if e := l.Append("b"); e != api.OK {
			t.Fatal(e)
		}
		tells(t, "the next round", l, moment{int(n) + 1, "r", []string{"b"}}, 0)
		if d.Read(0) != sealed(n+1, "r") || d.Read(1) != sealed(n+1, "b") {
			t.Errorf("round %d: %x, %x", n, d.Read(0), d.Read(1))
		}
	}
}

// P10.2, P10.3: a Sync is one of the whole disk, also when the log has nothing new.
func TestSyncOfTheDisk(t *testing.T) {
	d, l, _ := both(t)
	for range 2 {
		for f := 2; f < files; f++ {
			d.Append(f, "x")
		}
		l.Sync()
		if d.Units() != 0 || d.Kept(2) != d.Read(2) || d.Kept(3) != d.Read(3) || d.Read(2) == "" {
			t.Errorf("%d units, %q, %q", d.Units(), d.Kept(2), d.Kept(3))
		}
	}
	l.Append("a")
	if d.Kept(1) != "" {
		t.Error("sure ahead of a Sync")
	}
	l.Sync()
	if d.Kept(1) != sealed(0, "a") {
		t.Error("not sure behind a Sync")
	}
}

// P10.3: how many records are sure, step by step.
func TestSure(t *testing.T) {
	d, l, p := both(t)
	for i, x := range []struct {
		step
		sure int
	}{
		{step{"sync", ""}, 0}, {step{"append", "a"}, 0}, {step{"append", "a"}, 0}, {step{"sync", ""}, 2}, {step{"append", "b"}, 2},
		{step{"append", strings.Repeat("x", mostRecord+1)}, 2}, {step{"check", strings.Repeat("x", mostState+1)}, 2}, {step{"append", "c"}, 2},
		{step{"sync", ""}, 4}, {step{"sync", ""}, 4}, {step{"check", "q"}, 0}, {step{"append", "d"}, 0}, {step{"sync", ""}, 1}, {step{"append", "e"}, 1},
		{step{"check", ""}, 0}, {step{"check", ""}, 0}, {step{"sync", ""}, 0}, {step{"append", "f"}, 0}, {step{"sync", ""}, 1}, {step{"check", "q"}, 0}, {step{"sync", ""}, 0},
	} {
		x.do(t, l, p)
		if n := l.Sure(); n != x.sure {
			t.Fatalf("step %d, %s: Sure %d, want %d", i, x.call, n, x.sure)
		}
		has(t, "step "+strconv.Itoa(i), d, l, p)
	}
}

// P10.2 to P10.4: every row of up to 5 steps of few texts, and behind it a crash with every number of units.
func TestEveryRow(t *testing.T) {
	steps := []step{{"append", ""}, {"append", "ab"}, {"check", ""}, {"check", "q"}, {"sync", ""}}
	var rows func(row []step, left int)
	rows = func(row []step, left int) {
		d, l, p := both(t, row...)
		has(t, "a row", d, l, p)
		crashes(t, "a row", d, p)
		if left == 0 {
			return
		}
		for _, x := range steps {
			rows(append(row[:len(row):len(row)], x), left-1)
		}
	}
	rows(nil, 5)
}

// P10.1 to P10.4, R2, R5: long rows of steps by chance, in which the disk crashes, and the log is opened again and goes on.
func TestByChance(t *testing.T) {
	r := rand.New(rand.NewSource(10))
	texts := append(slices.Clone(odd), strings.Repeat("x", mostRecord), strings.Repeat("x", mostRecord+1), strings.Repeat("y", mostState), strings.Repeat("y", mostState+1))
	for range 100 {
		d, l, p := both(t)
		for range 80 {
			s := texts[r.Intn(len(texts))]
			switch r.Intn(10) {
			default:
				step{"append", s}.do(t, l, p)
			case 6:
				step{"check", s}.do(t, l, p)
			case 7:
				step{"sync", ""}.do(t, l, p)
			case 8:
				n := r.Intn(p.units()+4) - 2
				d.Crash(n)
				p.crash(n)
				l = opened(t, d)
			case 9:
				l = opened(t, d)
				p.sync()
			}
			has(t, "by chance", d, l, p)
		}
		for range 20 {
			n := r.Intn(p.units() + 2)
			c, q := d.Copy(), p.copy()
			c.Crash(n)
			q.crash(n)
			has(t, "by chance, crash with "+strconv.Itoa(n), c, opened(t, c), q)
		}
	}
}

// P10.4: a crash while the log is opened once more: a second one loses nothing of what was opened.
func TestCrashBehindACrash(t *testing.T) {
	d, _, p := both(t, step{"append", "a"}, step{"sync", ""}, step{"append", "bb"}, step{"check", "q"}, step{"append", "c"}, step{"append", "dd"})
	for n := range p.units() + 1 {
		c, q := d.Copy(), p.copy()
		c.Crash(n)
		q.crash(n)
		opened(t, c)
		for range 2 {
			c.Crash(0)
			l := opened(t, c)
			has(t, "crashed twice", c, l, q)
		}
		l := opened(t, c)
		for _, x := range []step{{"append", "e"}, {"check", "r"}, {"append", "f"}} {
			x.do(t, l, q)
			has(t, "crashed, and on", c, l, q)
			crashes(t, "crashed, and on", c, q)
		}
	}
}

// R7: logs of a disk and of its copy go each their own way.
func TestLogsOfCopies(t *testing.T) {
	d, l, p := both(t, step{"check", "q"}, step{"append", "a"}, step{"append", "b"}, step{"append", "c"})
	c, q := d.Copy(), p.copy()
	m := opened(t, c)
	q.sync()
	for i := range 10 {
		step{"append", "l" + strconv.Itoa(i)}.do(t, l, p)
		step{"append", "m" + strconv.Itoa(i)}.do(t, m, q)
		has(t, "the one", d, l, p)
		has(t, "the other one", c, m, q)
	}
	step{"check", "r"}.do(t, l, p)
	step{"sync", ""}.do(t, m, q)
	has(t, "the one", d, l, p)
	has(t, "the other one", c, m, q)
}

// R4: what is handed in is not kept: when its memory changes, neither the log does, nor its disk.
func TestKeepsNothing(t *testing.T) {
	for _, call := range []string{"append", "check"} {
		bytes := []byte("abc")
		d, l, p := both(t, step{"append", "x"})
		s := unsafe.String(&bytes[0], len(bytes))
		if call == "append" {
			l.Append(s)
			p.append("abc")
		} else {
			l.Check(s)
			p.check("abc")
		}
		bytes[0], bytes[1], bytes[2] = 'x', 'y', 'z'
		has(t, call, d, l, p)
		crashes(t, call, d, p)
	}
}

// R4: a list that was told is the caller's: when it changes, also in the room behind it, nothing else does.
func TestRecordsAreNew(t *testing.T) {
	spoil := func(list []string) {
		for i := range list[:cap(list)] {
			list[:cap(list)][i] = "spoiled"
		}
	}
	for n := range 20 {
		d, l, p := both(t)
		for i := range n {
			step{"append", strconv.Itoa(i)}.do(t, l, p)
			spoil(l.Records())
			has(t, "told", d, l, p)
		}
		list := l.Records()
		step{"append", "more"}.do(t, l, p)
		l = opened(t, d)
		p.sync()
		spoil(l.Records())
		has(t, "opened", d, l, p)
		step{"append", "and more"}.do(t, l, p)
		spoil(l.Records())
		has(t, "opened, and more", d, l, p)
		if len(list) != n || n > 0 && list[n-1] != strconv.Itoa(n-1) {
			t.Fatalf("what was told has changed: %q", list)
		}
	}
}

// R4: what is answered is new memory: no text of an answer is where one is that was handed in, or told by another call.
func TestAnswersAreNew(t *testing.T) {
	one, two := strings.Repeat("a", 40), strings.Repeat("b", 40)
	texts := []string{one, two}
	d, l, _ := both(t)
	tell := func() {
		for range 2 {
			texts = append(texts, l.State(), d.Read(0), d.Read(1))
			texts = append(texts, l.Records()...)
		}
	}
	l.Check(one)
	l.Append(one)
	l.Append(two)
	l.Append(one)
	tell()
	l = opened(t, d)
	tell()
	l.Check(two)
	l.Append(two)
	tell()
	for i := range texts {
		for j := range i {
			if overlap(texts[i], texts[j]) || overlap(texts[j], texts[i]) {
				t.Errorf("texts %d and %d of %d share memory", j, i, len(texts))
			}
		}
	}
}

func overlap(whole, s string) bool {
	at := uintptr(unsafe.Pointer(unsafe.StringData(s)))
	begin := uintptr(unsafe.Pointer(unsafe.StringData(whole)))
	return len(s) > 0 && begin <= at && at < begin+uintptr(len(whole))
}
