package disk_test

import (
	"math"
	"math/rand"
	"slices"
	"strconv"
	"strings"
	"testing"
	"unsafe"

	"rivulet/api"
	"rivulet/disk"
)

const (
	count = 4
	most  = 65536
)

// none are numbers of no file: those beside the four, and some that would be one of them in fewer bits.
var none = []int{-1, 4, -2, 5, -4, 7, 255, 256, 1 << 16, 1 << 32, 1<<32 + 1, -1 << 32, math.MinInt, math.MinInt + 1, math.MaxInt}

// odd are texts of which a disk must make nothing of its own.
var odd = []string{"", "\x00", "\xff\xfe", "a\n", "é", " ", "\x00\x00", strings.Repeat("ab", api.MaxText)}

// step is a write, or what an Append does by one unit: s stands in the place of a file's bytes, or behind them.
type step struct {
	file    int
	replace bool
	s       string
}

// plain is a disk as the document's words have it: what is kept, and the units that are not sure, one by one.
type plain struct {
	kept  [count]string
	units []step
}

// write does a write's units; whoever calls it knows that it may be done.
func (p *plain) write(w step) {
	if w.replace {
		p.units = append(slices.Clone(p.units), w)
		return
	}
	for i := 0; i < len(w.s); i++ {
		p.units = append(slices.Clone(p.units), step{w.file, false, w.s[i : i+1]})
	}
}

// error is what a write is answered.
func (p *plain) error(w step) api.Errno {
	if w.file < 0 || w.file > 3 {
		return api.ErrArg
	}
	size := len(w.s)
	if !w.replace {
		size += len(p.first(len(p.units))[w.file])
	}
	if size > most {
		return api.ErrBig
	}
	return api.OK
}

// first are the files with the first so many units.
func (p *plain) first(n int) [count]string {
	out := p.kept
	for _, u := range p.units[:n] {
		if u.replace {
			out[u.file] = ""
		}
		out[u.file] += u.s
	}
	return out
}

func (p *plain) sync() {
	p.kept, p.units = p.first(len(p.units)), nil
}

func (p *plain) crash(n int) int {
	n = min(max(n, 0), len(p.units))
	p.kept, p.units = p.first(n), nil
	return n
}

func (p *plain) copy() *plain {
	return &plain{p.kept, slices.Clone(p.units)}
}

// write does a write to a disk.
func write(d *disk.Disk, w step) api.Errno {
	if w.replace {
		return d.Replace(w.file, w.s)
	}
	return d.Append(w.file, w.s)
}

// both are a new disk and a plain one, to which the same writes were done; those up to the place sure were synced.
func both(t *testing.T, sure int, writes ...step) (*disk.Disk, *plain) {
	t.Helper()
	d, p := disk.New(), &plain{}
	for i, w := range writes {
		if i == sure {
			d.Sync()
			p.sync()
		}
		if e := write(d, w); e != api.OK {
			t.Fatalf("write %d of %v: %d", i, writes, e)
		}
		p.write(w)
	}
	if sure == len(writes) {
		d.Sync()
		p.sync()
	}
	return d, p
}

// short tells a text, or so much of it that it can be read.
func short(s string) string {
	if len(s) > 60 {
		return strconv.Quote(s[:20]) + ".. of " + strconv.Itoa(len(s))
	}
	return strconv.Quote(s)
}

// looks holds what a disk tells, and goes on telling, against a plain one.
func looks(t *testing.T, name string, d *disk.Disk, p *plain) {
	t.Helper()
	now := p.first(len(p.units))
	for range 2 {
		for f := range count {
			if s := d.Read(f); s != now[f] {
				t.Fatalf("%s: Read(%d) %s, want %s", name, f, short(s), short(now[f]))
			}
			if s := d.Kept(f); s != p.kept[f] {
				t.Fatalf("%s: Kept(%d) %s, want %s", name, f, short(s), short(p.kept[f]))
			}
		}
		for _, f := range none {
			if r, k := d.Read(f), d.Kept(f); r != "" || k != "" {
				t.Fatalf("%s: file %d: %s, %s", name, f, short(r), short(k))
			}
		}
		if n := d.Units(); n != len(p.units) {
			t.Fatalf("%s: Units %d, want %d", name, n, len(p.units))
		}
	}
}

// has is looks, and holds what a crash with any units would leave, and tell, against the plain one; the disk stays.
func has(t *testing.T, name string, d *disk.Disk, p *plain) {
	t.Helper()
	looks(t, name, d, p)
	for n := -2; n <= len(p.units)+2; n++ {
		crashes(t, name+", crash of a copy", d.Copy(), p.copy(), n)
	}
	looks(t, name, d, p)
}

// crashes lets both crash, and holds what is told, and what is left, against each other.
func crashes(t *testing.T, name string, d *disk.Disk, p *plain, n int) {
	t.Helper()
	want := p.crash(n)
	if got := d.Crash(n); got != want {
		t.Fatalf("%s: Crash(%d) %d, want %d", name, n, got, want)
	}
	looks(t, name+" with "+strconv.Itoa(n), d, p)
}

// P9.1, P9.2, P9.3: a new disk has nothing, and loses nothing.
func TestNew(t *testing.T) {
	for _, n := range []int{math.MinInt, -1, 0, 1, 2, math.MaxInt} {
		d, p := disk.New(), &plain{}
		has(t, "new", d, p)
		crashes(t, "new", d, p, n)
		d.Sync()
		has(t, "new, synced", d, p)
	}
}

// P9.1: each New is a disk of its own.
func TestNewApart(t *testing.T) {
	a, b := disk.New(), disk.New()
	a.Append(0, "a")
	a.Sync()
	a.Append(1, "b")
	has(t, "the other one", b, &plain{})
	has(t, "the one", a, &plain{[count]string{"a"}, []step{{1, false, "b"}}})
}

// P9.3: the document's example.
func TestExample(t *testing.T) {
	d := disk.New()
	if e := d.Append(0, "abc"); e != api.OK {
		t.Fatal(e)
	}
	if n := d.Crash(2); n != 2 || d.Read(0) != "ab" {
		t.Fatal(n, d.Read(0))
	}
	has(t, "example", d, &plain{kept: [count]string{"ab"}})
}

// P9.1, P9.2: each of the four files has bytes of its own; Append puts behind them, Replace in their place.
func TestFourFiles(t *testing.T) {
	for f := range count {
		d, p := disk.New(), &plain{}
		for i, w := range []step{{f, false, "ab"}, {f, false, "c"}, {f, true, "de"}, {f, false, "f"}, {f, true, ""}, {f, false, "g"}, {f, true, "hij"}, {f, true, "k"}} {
			if e := write(d, w); e != api.OK {
				t.Fatalf("file %d, write %d: %d", f, i, e)
			}
			p.write(w)
			has(t, "file "+strconv.Itoa(f)+", write "+strconv.Itoa(i), d, p)
		}
	}
	d := disk.New()
	for f := range count {
		d.Append(f, strings.Repeat("x", f+1))
	}
	for f := range count {
		if s := d.Read(f); len(s) != f+1 {
			t.Errorf("Read(%d): %q", f, s)
		}
	}
}

// P9.1, R2: of no file but the four, whatever the text: ErrArg, also when the text is too big, and nothing changes.
func TestNoSuchFile(t *testing.T) {
	writes := []step{{0, false, "ab"}, {3, true, "c"}, {0, true, "d"}, {3, false, "ef"}}
	for sure := range len(writes) + 1 {
		d, p := both(t, sure, writes...)
		for _, f := range none {
			for _, s := range []string{"", "x", strings.Repeat("x", most), strings.Repeat("x", most+1)} {
				if e := d.Append(f, s); e != api.ErrArg {
					t.Errorf("Append(%d, %s): %d", f, short(s), e)
				}
				if e := d.Replace(f, s); e != api.ErrArg {
					t.Errorf("Replace(%d, %s): %d", f, short(s), e)
				}
			}
		}
		has(t, "no such file", d, p)
	}
}

// P9.1: an Append may make a file as big as 65536 bytes, and no bigger, however it came to its bytes, sure or not.
func TestAppendLimit(t *testing.T) {
	for _, x := range []struct{ has, more int }{{0, most}, {1, most - 1}, {most - 1, 1}, {most, 0}, {most / 2, most / 2}, {255, most - 255}} {
		for _, sure := range []int{0, 1, 2} {
			for _, replace := range []bool{false, true} {
				name := strconv.Itoa(x.has) + " and " + strconv.Itoa(x.more)
				text := strings.Repeat("a", x.has)
				d := disk.New()
				write(d, step{2, replace, text})
				if sure > 0 {
					d.Sync()
				}
				before := d.Units()
				if e := d.Append(2, strings.Repeat("b", x.more+1)); e != api.ErrBig {
					t.Fatalf("%s: one too many: %d", name, e)
				}
				if d.Read(2) != text || d.Units() != before {
					t.Fatalf("%s: one too many: %d bytes, %d units", name, len(d.Read(2)), d.Units())
				}
				if e := d.Append(2, strings.Repeat("b", x.more)); e != api.OK {
					t.Fatalf("%s: %d", name, e)
				}
				if sure > 1 {
					d.Sync()
				}
				full(t, name, d, text+strings.Repeat("b", x.more))
			}
		}
	}
}

// full holds that file 2, which has these bytes, takes no more by an Append, while the others do.
func full(t *testing.T, name string, d *disk.Disk, want string) {
	t.Helper()
	for range 2 {
		for _, more := range []int{1, 2, most, most + 1, 1 << 20} {
			if e := d.Append(2, strings.Repeat("c", more)); e != api.ErrBig {
				t.Fatalf("%s: full, and %d more: %d", name, more, e)
			}
		}
		if e := d.Append(2, ""); e != api.OK {
			t.Fatalf("%s: full, and nothing more: %d", name, e)
		}
	}
	if s := d.Read(2); s != want {
		t.Fatalf("%s: %s, want %s", name, short(s), short(want))
	}
	for _, f := range []int{0, 1, 3} {
		if e := d.Append(f, strings.Repeat("d", most)); e != api.OK {
			t.Fatalf("%s: another file, %d: %d", name, f, e)
		}
	}
	if d.Replace(2, "e") != api.OK || d.Append(2, strings.Repeat("f", most-1)) != api.OK || d.Append(2, "g") != api.ErrBig {
		t.Fatalf("%s: full, and replaced", name)
	}
}

// P9.1: a Replace may be of 65536 bytes, and of no more, whatever the file has.
func TestReplaceLimit(t *testing.T) {
	big, bigger := strings.Repeat("x", most), strings.Repeat("x", most+1)
	for f := range count {
		d, p := disk.New(), &plain{}
		for _, before := range []string{"", "a", big} {
			d.Replace(f, before)
			p.write(step{f, true, before})
			for _, s := range []string{bigger, bigger + bigger} {
				if e := d.Replace(f, s); e != api.ErrBig {
					t.Fatalf("Replace(%d) by %d bytes: %d", f, len(s), e)
				}
				has(t, "too big", d, p)
			}
			if e := d.Replace(f, big); e != api.OK {
				t.Fatalf("Replace(%d) by %d bytes: %d", f, len(big), e)
			}
			p.write(step{f, true, big})
			has(t, "as big as may be", d, p)
		}
	}
}

// P9.1, R2: a write that is too big changes nothing that a crash could tell, either.
func TestTooBigChangesNothing(t *testing.T) {
	writes := []step{{1, false, "ab"}, {1, true, "c"}, {0, false, "d"}, {1, false, "ef"}}
	for sure := range len(writes) + 1 {
		d, p := both(t, sure, writes...)
		for f := range count {
			if e := d.Append(f, strings.Repeat("x", most+1)); e != api.ErrBig {
				t.Fatal(e)
			}
			if e := d.Replace(f, strings.Repeat("x", most+1)); e != api.ErrBig {
				t.Fatal(e)
			}
		}
		for _, f := range []int{0, 1} {
			if s := strings.Repeat("x", most-len(d.Read(f))+1); d.Append(f, s) != api.ErrBig {
				t.Fatalf("file %d and %d more", f, len(s))
			}
		}
		has(t, "too big", d, p)
	}
}

// P9.1, P9.3: what a file may have hangs on what stayed, behind a crash.
func TestLimitBehindACrash(t *testing.T) {
	d := disk.New()
	d.Append(0, strings.Repeat("x", most-3))
	d.Sync()
	d.Append(0, "abc")
	if e := d.Append(0, "d"); e != api.ErrBig {
		t.Fatal(e)
	}
	if n := d.Crash(1); n != 1 {
		t.Fatal(n)
	}
	if d.Append(0, "yzz") != api.ErrBig || d.Append(0, "yz") != api.OK || d.Append(0, "z") != api.ErrBig {
		t.Error("not as much room as was lost")
	}
	if s := d.Read(0); s != strings.Repeat("x", most-3)+"ayz" {
		t.Error(short(s))
	}
	d.Replace(0, "")
	d.Append(0, "more")
	d.Crash(0)
	if s := d.Read(0); s != strings.Repeat("x", most-3)+"a" {
		t.Error(short(s))
	}
}

// P9.2: what is kept is what was there at the last Sync, whatever was written since.
func TestSync(t *testing.T) {
	d, p := disk.New(), &plain{}
	for i, w := range []step{{0, false, "ab"}, {1, true, "c"}, {0, false, ""}, {0, true, "ab"}, {0, true, "d"}, {3, false, "e"}, {1, true, "c"}, {1, true, ""}} {
		write(d, w)
		p.write(w)
		has(t, "written", d, p)
		if i%2 == 1 {
			for range 2 {
				d.Sync()
				p.sync()
				has(t, "synced", d, p)
			}
		}
	}
}

// P9.3: an Append has as many units as bytes, not as signs; a Replace one, of whatever text, also of the text that is there.
func TestUnits(t *testing.T) {
	d := disk.New()
	want := 0
	has := func(name string, more int) {
		t.Helper()
		want += more
		if n := d.Units(); n != want {
			t.Fatalf("%s: %d units, want %d", name, n, want)
		}
	}
	for f := range count {
		for _, s := range odd {
			d.Append(f, s)
			has("Append "+short(s), len(s))
			for range 3 {
				d.Replace(f, s)
				has("Replace "+short(s), 1)
			}
			d.Append(f, "")
			has("Append nothing", 0)
		}
		d.Replace(f, strings.Repeat("x", most))
		has("a big Replace", 1)
		d.Replace(f, "")
		has("Replace by nothing", 1)
		d.Append(f, strings.Repeat("x", most))
		has("a big Append", most)
	}
	d.Sync()
	has("Sync", -want)
}

// P9.3: a crash cuts between bytes, whatever they are, in the middle of a sign too.
func TestCrashCutsBytes(t *testing.T) {
	for _, s := range odd[:7] {
		d, p := both(t, 1, step{1, false, "é"}, step{1, false, s}, step{1, false, "é\x00"}, step{2, true, s}, step{1, true, "é"}, step{2, false, "é"})
		has(t, short(s), d, p)
	}
}

// P9.3: every row of up to 3 writes of few texts to two files, also behind a Replace, the first ones synced: a crash with every number of units.
func TestEveryRow(t *testing.T) {
	var writes []step
	for f := range 2 {
		for _, s := range []string{"", "a", "bc"} {
			writes = append(writes, step{f, false, s}, step{f, true, s})
		}
	}
	var rows func(row []step, left int)
	rows = func(row []step, left int) {
		for sure := range len(row) + 1 {
			d, p := both(t, sure, row...)
			has(t, "a row", d, p)
		}
		if left == 0 {
			return
		}
		for _, w := range writes {
			rows(append(row[:len(row):len(row)], w), left-1)
		}
	}
	rows(nil, 3)
	rows([]step{{0, true, "bc"}}, 3)
}

// P9.3: units that are far from what there is.
func TestCrashEnds(t *testing.T) {
	for _, x := range []struct{ units, want int }{
		{math.MinInt, 0}, {math.MinInt + 1, 0}, {-1 << 32, 0}, {-1, 0}, {0, 0}, {1, 1}, {6, 6}, {7, 7}, {8, 7}, {1 << 32, 7}, {math.MaxInt - 1, 7}, {math.MaxInt, 7},
	} {
		d, p := both(t, 2, step{0, false, "ab"}, step{1, true, "old"}, step{0, false, "cd"}, step{1, true, "new"}, step{0, false, "ef"}, step{1, false, "er"})
		if n := d.Copy().Crash(x.units); n != x.want {
			t.Errorf("Crash(%d) %d, want %d", x.units, n, x.want)
		}
		crashes(t, "ends", d, p, x.units)
	}
}

// P9.3: behind a crash all is sure: another one loses nothing, and what was lost does not come again.
func TestBehindACrash(t *testing.T) {
	for n := range 9 {
		d, p := both(t, 1, step{0, false, "ab"}, step{0, false, "cd"}, step{1, true, "new"}, step{0, true, "e"}, step{1, false, "er"})
		crashes(t, "the first one", d, p, n)
		crashes(t, "one more", d, p, 0)
		crashes(t, "one more, with units", d, p, 5)
		d.Sync()
		looks(t, "synced", d, p)
		for _, w := range []step{{0, false, "x"}, {1, true, "yz"}, {0, false, "uv"}} {
			write(d, w)
			p.write(w)
			has(t, "written again", d, p)
		}
	}
}

// P9.3: a crash among many bytes, and among many writes.
func TestManyUnits(t *testing.T) {
	text := strings.Repeat("0123456789abcdef", most/16)
	for _, n := range []int{0, 1, 255, 256, most - 1, most, most + 1, most + 2, 2*most + 1, 2*most + 2} {
		d := disk.New()
		d.Append(0, text)
		d.Replace(1, text)
		d.Append(2, text)
		if got, want := d.Crash(n), min(n, 2*most+1); got != want {
			t.Errorf("Crash(%d) %d, want %d", n, got, want)
		}
		second := ""
		if n > most {
			second = text
		}
		if d.Read(0) != text[:min(n, most)] || d.Read(1) != second || d.Read(2) != text[:min(max(n-most-1, 0), most)] {
			t.Errorf("Crash(%d): %d, %d, %d bytes", n, len(d.Read(0)), len(d.Read(1)), len(d.Read(2)))
		}
	}
	d := disk.New()
	for i := range 5000 {
		d.Append(3, text[i:i+1])
		d.Replace(0, text[:i%7])
	}
	if d.Units() != 10000 || d.Crash(6001) != 6001 || d.Read(3) != text[:3001] || d.Read(0) != text[:2999%7] {
		t.Error(len(d.Read(3)), d.Read(0))
	}
}

// P9.4: a crash with all units, or more, leaves what a Sync leaves; one without any leaves what was kept.
func TestCrashIsSync(t *testing.T) {
	for sure := range 6 {
		d, _ := both(t, sure, step{0, false, "ab"}, step{1, true, "c"}, step{0, true, "de"}, step{2, false, "fgh"}, step{0, false, "i"})
		synced := d.Copy()
		synced.Sync()
		for more := range 3 {
			c := d.Copy()
			if n := c.Crash(d.Units() + more); n != d.Units() {
				t.Errorf("%d sure: %d units stayed of %d", sure, n, d.Units())
			}
			for f := range count {
				if c.Read(f) != synced.Read(f) || c.Kept(f) != synced.Kept(f) || c.Read(f) != d.Read(f) || c.Units() != 0 {
					t.Errorf("%d sure, file %d: %q, %q, want %q", sure, f, c.Read(f), c.Kept(f), synced.Read(f))
				}
			}
			c = d.Copy()
			if n := c.Crash(-more); n != 0 {
				t.Errorf("%d sure: %d units stayed of none", sure, n)
			}
			for f := range count {
				if c.Read(f) != d.Kept(f) || c.Kept(f) != d.Kept(f) || c.Units() != 0 {
					t.Errorf("%d sure, file %d: %q, %q, want %q", sure, f, c.Read(f), c.Kept(f), d.Kept(f))
				}
			}
		}
	}
}

// works are what can be done to a disk, and the same to a plain one.
func works() map[string]func(d *disk.Disk, p *plain) {
	out := map[string]func(d *disk.Disk, p *plain){
		"a Sync":   func(d *disk.Disk, p *plain) { d.Sync(); p.sync() },
		"a Copy":   func(d *disk.Disk, p *plain) { d.Copy().Append(0, "x") },
		"an error": func(d *disk.Disk, p *plain) { d.Append(4, "x"); d.Replace(0, strings.Repeat("x", most+1)) },
	}
	for f := range count {
		for _, s := range []string{"", "x", "yz"} {
			for _, replace := range []bool{false, true} {
				w := step{f, replace, s}
				out["a write "+strconv.Itoa(f)+s+strconv.FormatBool(replace)] = func(d *disk.Disk, p *plain) { write(d, w); p.write(w) }
			}
		}
	}
	for n := range 7 {
		out["a Crash "+strconv.Itoa(n)] = func(d *disk.Disk, p *plain) { d.Crash(n); p.crash(n) }
	}
	return out
}

// P9.3, R7: a copy is in the same state, and what is done to one of both is not seen in the other one.
func TestCopy(t *testing.T) {
	writes := []step{{0, false, "ab"}, {1, true, "c"}, {0, false, "d"}, {0, true, "e"}, {3, false, "fg"}}
	for n := range len(writes) + 1 {
		for sure := range n + 1 {
			for name, work := range works() {
				d, p := both(t, sure, writes[:n]...)
				c, q := d.Copy(), p.copy()
				if c == d {
					t.Fatal("a copy is the disk itself")
				}
				work(d, p)
				has(t, "the copy, when the disk had "+name, c, q)
				has(t, "the disk that had "+name, d, p)

				d, p = both(t, sure, writes[:n]...)
				c, q = d.Copy(), p.copy()
				work(c, q)
				has(t, "the disk, when its copy had "+name, d, p)
				has(t, "the copy that had "+name, c, q)
			}
		}
	}
}

// R7: two copies, and the disk, each go on by writes of their own, behind as many that they have in common.
func TestCopiesGoOn(t *testing.T) {
	for n := range 20 {
		d, p := disk.New(), &plain{}
		for i := range n {
			d.Append(0, strconv.Itoa(i))
			p.write(step{0, false, strconv.Itoa(i)})
		}
		a, b := d.Copy(), d.Copy()
		q, r := p.copy(), p.copy()
		for _, x := range []struct {
			d *disk.Disk
			p *plain
			w step
		}{{a, q, step{0, false, "a"}}, {d, p, step{1, false, "dd"}}, {b, r, step{0, true, "b"}}, {a, q, step{1, true, "aa"}}, {d, p, step{0, true, "d"}}} {
			write(x.d, x.w)
			x.p.write(x.w)
		}
		has(t, "the one copy", a, q)
		has(t, "the other copy", b, r)
		has(t, "the disk", d, p)
	}
}

// P9.1 to P9.4, R2, R5, R7: many disks and their copies, held against plain ones, by chance.
func TestByChance(t *testing.T) {
	r := rand.New(rand.NewSource(9))
	for range 300 {
		disks, plains := []*disk.Disk{disk.New()}, []*plain{{}}
		for range 80 {
			i := r.Intn(len(disks))
			d, p := disks[i], plains[i]
			switch r.Intn(12) {
			default:
				w := step{r.Intn(6) - 1, r.Intn(3) == 0, strings.Repeat(string(rune('a'+r.Intn(3))), r.Intn(5))}
				want := p.error(w)
				if got := write(d, w); got != want {
					t.Fatalf("%v: %d, want %d", w, got, want)
				}
				if want == api.OK {
					p.write(w)
				}
			case 9:
				if r.Intn(2) == 0 {
					d.Sync()
					p.sync()
				}
			case 10:
				if r.Intn(2) == 0 {
					crashes(t, "by chance", d, p, r.Intn(len(p.units)+4)-2)
				}
			case 11:
				if len(disks) < 5 {
					disks, plains = append(disks, d.Copy()), append(plains, p.copy())
				}
			}
			for i := range disks {
				looks(t, "by chance", disks[i], plains[i])
			}
		}
		for i := range disks {
			has(t, "by chance", disks[i], plains[i])
		}
	}
}

// P9.1, R2, R5: texts near the limit, by chance.
func TestBigByChance(t *testing.T) {
	r := rand.New(rand.NewSource(99))
	sizes := []int{0, 1, 2, most / 2, most/2 + 1, most - 2, most - 1, most, most + 1, 2 * most}
	for range 60 {
		d := disk.New()
		var now, kept [count]string
		for range 40 {
			w := step{r.Intn(count), r.Intn(2) == 0, strings.Repeat(string(rune('a'+r.Intn(26))), sizes[r.Intn(len(sizes))])}
			want := w.s
			if !w.replace {
				want = now[w.file] + w.s
			}
			e := write(d, w)
			if e != api.OK && e != api.ErrBig || (e == api.ErrBig) != (len(want) > most) {
				t.Fatalf("%t: %d bytes, then %d: %d", w.replace, len(now[w.file]), len(want), e)
			}
			if e == api.OK {
				now[w.file] = want
			}
			switch r.Intn(10) {
			case 0:
				d.Sync()
				kept = now
			case 1:
				d.Crash(-r.Intn(2))
				now = kept
			case 2:
				d.Crash(d.Units() + r.Intn(2))
				kept = now
			}
			for f := range count {
				if d.Read(f) != now[f] || d.Kept(f) != kept[f] {
					t.Fatalf("file %d: %d, %d bytes, want %d, %d", f, len(d.Read(f)), len(d.Kept(f)), len(now[f]), len(kept[f]))
				}
			}
		}
	}
}

// R4: what is written is not kept: when its memory changes, the disk does not, neither what is told nor what a crash leaves.
func TestWritesKeepNothing(t *testing.T) {
	for _, replace := range []bool{false, true} {
		for _, before := range []string{"", "before"} {
			bytes := []byte("abc")
			d, p := both(t, 1, step{0, false, before})
			write(d, step{0, replace, unsafe.String(&bytes[0], len(bytes))})
			p.write(step{0, replace, "abc"})
			c := d.Copy()
			bytes[0], bytes[1], bytes[2] = 'x', 'y', 'z'
			has(t, "changed", d, p)
			has(t, "changed, a copy", c, p)
			d.Sync()
			p.sync()
			has(t, "changed, synced", d, p)
		}
	}
}

// R4: what is answered is new memory: no text of an answer is where one is that was written, or told by another call, of the disk or of a copy.
func TestAnswersAreNew(t *testing.T) {
	one, two := strings.Repeat("a", 40), strings.Repeat("b", 40)
	texts := []string{one, two}
	tell := func(d *disk.Disk) {
		for range 2 {
			for f := range count {
				texts = append(texts, d.Read(f), d.Kept(f))
			}
		}
	}
	d := disk.New()
	for _, w := range []step{{0, false, one}, {1, true, one}, {2, false, one}, {2, false, two}, {3, true, one}, {3, false, two}} {
		write(d, w)
	}
	tell(d)
	c := d.Copy()
	d.Sync()
	tell(d)
	tell(c)
	c.Crash(20)
	tell(c)
	d.Append(0, two)
	d.Replace(1, two)
	tell(d)
	d.Crash(40)
	tell(d)
	for i := range texts {
		for j := range i {
			if overlap(texts[i], texts[j]) || overlap(texts[j], texts[i]) {
				t.Errorf("texts %d and %d of %d share memory", j, i, len(texts))
			}
		}
	}
}

func overlap(whole, s string) bool {
	at := uintptr(unsafe.Pointer(unsafe.StringData(s)))
	begin := uintptr(unsafe.Pointer(unsafe.StringData(whole)))
	return len(s) > 0 && begin <= at && at < begin+uintptr(len(whole))
}
