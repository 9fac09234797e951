package varint_test

import (
	"bytes"
	"math"
	"math/rand"
	"strings"
	"testing"

	"rivulet/api"
	"rivulet/varint"
)

// edges are numbers of which the document says the bytes, in rising order: the first and the last of each width, and some between.
var edges = []struct {
	n    uint64
	want string
}{
	{0, "\x00"},
	{1, "\x01"},
	{239, "\xef"},
	{240, "\xf0"},
	{241, "\xf1\x01"},
	{242, "\xf1\x02"},
	{495, "\xf1\xff"},
	{496, "\xf2\x00"},
	{2031, "\xf7\xff"},
	{2032, "\xf8\x00"},
	{2286, "\xf8\xfe"},
	{2287, "\xf8\xff"},
	{2288, "\xf9\x00\x00"},
	{2289, "\xf9\x00\x01"},
	{2543, "\xf9\x00\xff"},
	{2544, "\xf9\x01\x00"},
	{67822, "\xf9\xff\xfe"},
	{67823, "\xf9\xff\xff"},
	{67824, "\xfa\x01\x08\xf0"},
	{67825, "\xfa\x01\x08\xf1"},
	{70000, "\xfa\x01\x11\x70"},
	{1<<24 - 1, "\xfa\xff\xff\xff"},
	{1 << 24, "\xfb\x01\x00\x00\x00"},
	{1<<32 - 1, "\xfb\xff\xff\xff\xff"},
	{1 << 32, "\xfc\x01\x00\x00\x00\x00"},
	{1<<40 - 1, "\xfc\xff\xff\xff\xff\xff"},
	{1 << 40, "\xfd\x01\x00\x00\x00\x00\x00"},
	{1<<48 - 1, "\xfd\xff\xff\xff\xff\xff\xff"},
	{1 << 48, "\xfe\x01\x00\x00\x00\x00\x00\x00"},
	{1<<56 - 1, "\xfe\xff\xff\xff\xff\xff\xff\xff"},
	{1 << 56, "\xff\x01\x00\x00\x00\x00\x00\x00\x00"},
	{0x0123456789abcdef, "\xff\x01\x23\x45\x67\x89\xab\xcd\xef"},
	{1<<63 - 1, "\xff\x7f\xff\xff\xff\xff\xff\xff\xff"},
	{1 << 63, "\xff\x80\x00\x00\x00\x00\x00\x00\x00"},
	{math.MaxUint64 - 1, "\xff\xff\xff\xff\xff\xff\xff\xff\xfe"},
	{math.MaxUint64, "\xff\xff\xff\xff\xff\xff\xff\xff\xff"},
}

// bytesOf are a number's bytes in the document's own words, by division.
func bytesOf(n uint64) string {
	switch {
	case n <= 240:
		return string([]byte{byte(n)})
	case n <= 2287:
		return string([]byte{byte(241 + (n-240)/256), byte((n - 240) % 256)})
	case n <= 67823:
		return string([]byte{249, byte((n - 2288) / 256), byte((n - 2288) % 256)})
	}
	var low []byte
	for m := n; m > 0; m /= 256 {
		low = append([]byte{byte(m % 256)}, low...)
	}
	return string(append([]byte{byte(247 + len(low))}, low...))
}

// many hands on all numbers of up to three bytes, some of four, those around each power of two, and a fixed row of others of all widths.
func many(hand func(n uint64)) {
	for n := range uint64(70001) {
		hand(n)
	}
	for k := range 64 {
		for d := range uint64(7) {
			hand(uint64(1)<<k + d - 3)
		}
	}
	r := rand.New(rand.NewSource(1))
	for range 20000 {
		hand(r.Uint64() >> r.Intn(64))
	}
}

func wantGet(t *testing.T, s string, at int, n uint64, to int, e api.Errno) {
	t.Helper()
	if gotN, gotTo, gotE := varint.Get(s, at); gotN != n || gotTo != to || gotE != e {
		t.Errorf("Get(%x, %d): %d, %d, %d, not %d, %d, %d", s, at, gotN, gotTo, gotE, n, to, e)
	}
}

func wantCut(t *testing.T, s string, at int, text string, to int, e api.Errno) {
	t.Helper()
	if gotText, gotTo, gotE := varint.Cut(s, at); gotText != text || gotTo != to || gotE != e {
		t.Errorf("Cut(%.20x (%d bytes), %d): %.20x (%d bytes), %d, %d, not %.20x (%d bytes), %d, %d", s, len(s), at, gotText, len(gotText), gotTo, gotE, text, len(text), to, e)
	}
}

// P1.1
func TestPutAndSizeAtEdges(t *testing.T) {
	for _, x := range edges {
		if got := varint.Put(x.n); got != x.want {
			t.Errorf("Put(%d): %x, not %x", x.n, got, x.want)
		}
		if got := varint.Size(x.n); got != len(x.want) {
			t.Errorf("Size(%d): %d, not %d", x.n, got, len(x.want))
		}
	}
}

// P1.1
func TestPutAndSizeOfMany(t *testing.T) {
	many(func(n uint64) {
		want := bytesOf(n)
		if got := varint.Put(n); got != want {
			t.Fatalf("Put(%d): %x, not %x", n, got, want)
		}
		if got := varint.Size(n); got != len(want) || got < 1 || got > 9 {
			t.Fatalf("Size(%d): %d, not %d", n, got, len(want))
		}
	})
}

// P1.2: what stands ahead and behind does not matter.
func TestGetAtEdges(t *testing.T) {
	for _, x := range edges {
		wantGet(t, x.want, 0, x.n, len(x.want), api.OK)
		wantGet(t, "\xff\xff"+x.want+"\xff\x00", 2, x.n, 2+len(x.want), api.OK)
		wantGet(t, "\x00"+x.want+"\x00", 1, x.n, 1+len(x.want), api.OK)
	}
}

// P1.2
func TestGetAtNoPlace(t *testing.T) {
	for _, s := range []string{"", "\x05", "\xf1\x01", "\xf9\x00\x00\xff"} {
		for _, at := range []int{-1, -2, math.MinInt, len(s) + 1, len(s) + 2, math.MaxInt} {
			wantGet(t, s, at, 0, 0, api.ErrArg)
		}
		wantGet(t, s, len(s), 0, 0, api.ErrShort)
	}
}

// P1.2: that there are too few bytes is told ahead of that they could be no number's own.
func TestGetOfTooFew(t *testing.T) {
	for _, x := range edges {
		for size := range len(x.want) {
			wantGet(t, x.want[:size], 0, 0, 0, api.ErrShort)
			wantGet(t, "ab"+x.want[:size], 2, 0, 0, api.ErrShort)
		}
	}
	for first, asked := range map[byte]int{241: 2, 248: 2, 249: 3, 250: 4, 251: 5, 252: 6, 253: 7, 254: 8, 255: 9} {
		for size := 1; size < asked; size++ {
			wantGet(t, string([]byte{first})+strings.Repeat("\x00", size-1), 0, 0, 0, api.ErrShort)
		}
	}
}

// P1.2: of each width the greatest number that has fewer bytes of its own, and the least.
func TestGetOfNotItsOwn(t *testing.T) {
	for _, s := range []string{
		"\xf1\x00",
		"\xfa\x00\x00\x00", "\xfa\x01\x08\xef", "\xfa\x00\x00\x05", "\xfa\x00\xff\xff",
		"\xfb\x00\x00\x00\x00", "\xfb\x00\xff\xff\xff",
		"\xfc\x00\x00\x00\x00\x00", "\xfc\x00\xff\xff\xff\xff",
		"\xfd\x00\x00\x00\x00\x00\x00", "\xfd\x00\xff\xff\xff\xff\xff",
		"\xfe\x00\x00\x00\x00\x00\x00\x00", "\xfe\x00\xff\xff\xff\xff\xff\xff",
		"\xff\x00\x00\x00\x00\x00\x00\x00\x00", "\xff\x00\xff\xff\xff\xff\xff\xff\xff",
	} {
		wantGet(t, s, 0, 0, 0, api.ErrForm)
		wantGet(t, "a"+s+"b", 1, 0, 0, api.ErrForm)
	}
}

// P1.2: of all texts of two bytes, and of all of four that begin with 250 or 249.
func TestGetOfAllShort(t *testing.T) {
	for i := range 1 << 16 {
		s := string([]byte{byte(i >> 8), byte(i)})
		switch first := s[0]; {
		case first <= 240:
			wantGet(t, s, 0, uint64(first), 1, api.OK)
		case s == "\xf1\x00":
			wantGet(t, s, 0, 0, 0, api.ErrForm)
		case first <= 248:
			wantGet(t, s, 0, uint64(i-241*256+240), 2, api.OK)
		default:
			wantGet(t, s, 0, 0, 0, api.ErrShort)
		}
		wantGet(t, "\xf9"+s+"\x07", 0, uint64(i+2288), 3, api.OK)
	}
	for i := range uint64(1 << 18) {
		s := string([]byte{250, byte(i >> 16), byte(i >> 8), byte(i)})
		if i <= 67823 {
			wantGet(t, s, 0, 0, 0, api.ErrForm)
		} else {
			wantGet(t, s, 0, i, 4, api.OK)
		}
	}
}

// P1.2: what is got of any bytes are just the bytes that are put of it.
func TestGetOfAnyBytes(t *testing.T) {
	r := rand.New(rand.NewSource(2))
	for range 20000 {
		b := make([]byte, r.Intn(12))
		for i := range b {
			b[i] = []byte{0, 1, 241, 249, 250, 255, byte(r.Intn(256))}[r.Intn(7)]
		}
		s, at := string(b), r.Intn(len(b)+1)
		n, to, e := varint.Get(s, at)
		if e == api.OK && (to < at || to > len(s) || s[at:to] != bytesOf(n)) {
			t.Fatalf("Get(%x, %d): %d, %d", s, at, n, to)
		}
		if e != api.OK && (n != 0 || to != 0 || e != api.ErrShort && e != api.ErrForm) {
			t.Fatalf("Get(%x, %d): %d, %d, %d", s, at, n, to, e)
		}
	}
}

// P1.3
func TestText(t *testing.T) {
	for _, x := range []struct {
		size int
		head string
	}{{0, "\x00"}, {1, "\x01"}, {240, "\xf0"}, {241, "\xf1\x01"}, {2287, "\xf8\xff"}, {2288, "\xf9\x00\x00"}, {65536, "\xf9\xf7\x10"}, {65537, "\xf9\xf7\x11"}, {67823, "\xf9\xff\xff"}, {67824, "\xfa\x01\x08\xf0"}} {
		s := strings.Repeat("q", x.size)
		if got := varint.Text(s); got != x.head+s {
			t.Errorf("Text of %d bytes: %d bytes, that begin with %.8x", x.size, len(got), got)
		}
	}
	if got := varint.Text("\xff\x00\xf1"); got != "\x03\xff\x00\xf1" {
		t.Errorf("Text: %x", got)
	}
}

// P1.3: up to 65536 bytes are cut, whatever stands ahead and behind.
func TestCut(t *testing.T) {
	for _, s := range []string{"", "a", "\x00", "\xff\xf1\x00", strings.Repeat("b", 240), strings.Repeat("c", 241), strings.Repeat("d", 2288), strings.Repeat("e", 65535), strings.Repeat("f", 65536)} {
		x := varint.Text(s)
		wantCut(t, x, 0, s, len(x), api.OK)
		wantCut(t, "\xff\xff"+x+"\xff", 2, s, 2+len(x), api.OK)
	}
	wantCut(t, "\x02abc\x01d", 0, "ab", 3, api.OK)
	wantCut(t, "\x02abc\x01d", 4, "d", 6, api.OK)
}

// P1.3: Get's errors stand ahead, then ErrBig, then ErrShort.
func TestCutOfWrongBytes(t *testing.T) {
	for _, s := range []string{"", "\x00", "\x01a", "\xf1"} {
		for _, at := range []int{-1, math.MinInt, len(s) + 1, math.MaxInt} {
			wantCut(t, s, at, "", 0, api.ErrArg)
		}
		wantCut(t, s, len(s), "", 0, api.ErrShort)
	}
	for _, s := range []string{"\xf1", "\xf9\xff", "\xff\xff\xff", "\x01", "\x02a", "\xf0" + strings.Repeat("a", 239), "\xf1\x01" + strings.Repeat("a", 240), varint.Put(65536), varint.Put(65536) + strings.Repeat("a", 65535)} {
		wantCut(t, s, 0, "", 0, api.ErrShort)
		wantCut(t, "ab"+s, 2, "", 0, api.ErrShort)
	}
	for _, s := range []string{"\xf1\x00", "\xf1\x00" + strings.Repeat("a", 300), "\xfa\x00\x00\x01a", "\xff\x00\xff\xff\xff\xff\xff\xff\xff"} {
		wantCut(t, s, 0, "", 0, api.ErrForm)
		wantCut(t, "ab"+s, 2, "", 0, api.ErrForm)
	}
	long := strings.Repeat("a", 65537)
	for _, s := range []string{varint.Put(65537), varint.Text(long), varint.Text(long + "a"), varint.Put(67824), varint.Put(1 << 32), varint.Put(1 << 63), varint.Put(1<<63+1) + "a", varint.Put(math.MaxUint64)} {
		wantCut(t, s, 0, "", 0, api.ErrBig)
		wantCut(t, "ab"+s, 2, "", 0, api.ErrBig)
	}
}

// P1.3
func TestLess(t *testing.T) {
	// Each one of them stands ahead of all that follow it.
	rising := []string{"", "\x00", "\x00\x00", "\x00\xff", "\x01", "\x01\x00", "A", "a", "a\x00", "aa", "ab", "ab\x00", "b", "\x7f", "\x80", "\xc3\xa9", "\xff", "\xff\x00", "\xff\xff"}
	for i, a := range rising {
		for j, b := range rising {
			if got := varint.Less(a, b); got != (i < j) {
				t.Errorf("Less(%x, %x): %t", a, b, got)
			}
		}
	}
	long := strings.Repeat("x", 1000)
	if !varint.Less(long, long+"\x00") || varint.Less(long+"\x00", long) || varint.Less(long, strings.Repeat("x", 1000)) {
		t.Error("Less of long ones")
	}
}

// P1.4: also when several stand one behind the other.
func TestWhatIsPutIsGot(t *testing.T) {
	many(func(n uint64) {
		s := varint.Put(n)
		if got, to, e := varint.Get(s, 0); got != n || to != len(s) || e != api.OK {
			t.Fatalf("Get(Put(%d), 0): %d, %d, %d", n, got, to, e)
		}
	})
	var row strings.Builder
	for _, x := range edges {
		row.WriteString(varint.Put(x.n))
		row.WriteString(varint.Text(x.want))
	}
	s, at := row.String(), 0
	for _, x := range edges {
		wantGet(t, s, at, x.n, at+len(x.want), api.OK)
		wantCut(t, s, at+len(x.want), x.want, at+1+2*len(x.want), api.OK)
		at += 1 + 2*len(x.want)
	}
	wantGet(t, s, at, 0, 0, api.ErrShort)
}

// P1.4: by Less, and by the library's own order of bytes.
func TestLesserOnesStandAhead(t *testing.T) {
	hold := func(a, b uint64) {
		x, y := varint.Put(a), varint.Put(b)
		if varint.Less(x, y) != (a < b) || varint.Less(y, x) != (b < a) || (bytes.Compare([]byte(x), []byte(y)) < 0) != (a < b) {
			t.Fatalf("%d and %d: %x and %x", a, b, x, y)
		}
	}
	for _, a := range edges {
		for _, b := range edges {
			hold(a.n, b.n)
		}
	}
	last := uint64(0)
	many(func(n uint64) {
		hold(last, n)
		hold(n, n+1) // also of the greatest one and 0
		last = n
	})
}
