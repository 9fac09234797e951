package check_test

import (
	"hash/crc32"
	"math"
	"math/rand"
	"slices"
	"strings"
	"testing"

	"rivulet/api"
	"rivulet/check"
	"rivulet/varint"
)

// sumOf is a sum in the document's own words, bit by bit.
func sumOf(s string) uint32 {
	sum := uint32(0xffffffff)
	for i := range len(s) {
		sum ^= uint32(s[i])
		for range 8 {
			if sum%2 == 1 {
				sum = sum/2 ^ 0xedb88320
			} else {
				sum = sum / 2
			}
		}
	}
	return sum ^ 0xffffffff
}

// sealOf are sealed bytes in the document's own words.
func sealOf(s string) string {
	n := sumOf(s)
	return varint.Text(s) + string([]byte{byte(n % 256), byte(n / 256 % 256), byte(n / 65536 % 256), byte(n / 16777216)})
}

// anyBytes are so many bytes, of all values.
func anyBytes(r *rand.Rand, size int) string {
	b := make([]byte, size)
	for i := range b {
		b[i] = byte(r.Intn(256))
	}
	return string(b)
}

// turned is s with one bit turned.
func turned(s string, bit int) string {
	b := []byte(s)
	b[bit/8] ^= 1 << (bit % 8)
	return string(b)
}

// texts are bytes to be sealed: none, all single ones, texts that look like numbers and sums, and those of which the number ahead has one, two and three bytes.
func texts() []string {
	out := []string{"", "abc", "123456789", "\x00\x00\x00\x00", "\xff\xff\xff\xff", "\xf1\x00", "\xf9\xf7\x11", "\xff\xff\xff\xff\xff\xff\xff\xff\xff"}
	for i := range 256 {
		out = append(out, string([]byte{byte(i)}))
	}
	out = append(out, check.Seal(""), check.Seal("abc"))
	r := rand.New(rand.NewSource(1))
	for _, size := range []int{2, 3, 4, 5, 7, 8, 9, 64, 239, 240, 241, 255, 256, 257, 2287, 2288, 4096, 65535, 65536} {
		out = append(out, anyBytes(r, size), strings.Repeat("\x00", size), strings.Repeat("\xff", size))
	}
	return out
}

func wantOpen(t *testing.T, s string, at int, text string, to int, e api.Errno) {
	t.Helper()
	if gotText, gotTo, gotE := check.Open(s, at); gotText != text || gotTo != to || gotE != e {
		t.Errorf("Open(%.20x (%d bytes), %d): %.20x (%d bytes), %d, %d, not %.20x (%d bytes), %d, %d", s, len(s), at, gotText, len(gotText), gotTo, gotE, text, len(text), to, e)
	}
}

// wantFault holds Open to an error, with other bytes ahead too.
func wantFault(t *testing.T, s string, e api.Errno) {
	t.Helper()
	wantOpen(t, s, 0, "", 0, e)
	wantOpen(t, "\x00\xff"+s, 2, "", 0, e)
}

func wantAll(t *testing.T, s string, want []string, at int) {
	t.Helper()
	if got, gotAt := check.All(s); !slices.Equal(got, want) || gotAt != at {
		t.Errorf("All(%.40x (%d bytes)): %.60q, %d, not %.60q, %d", s, len(s), got, gotAt, want, at)
	}
}

// P2.1
func TestSumOfKnown(t *testing.T) {
	for s, want := range map[string]uint32{
		"":                 0,
		"\x00":             0xd202ef8d,
		"\xff":             0xff000000,
		"a":                0xe8b7be43,
		"abc":              0x352441c2,
		"\x00\x00\x00\x00": 0x2144df1c,
		"\xff\xff\xff\xff": 0xffffffff,
		"123456789":        0xcbf43926,
		"The quick brown fox jumps over the lazy dog": 0x414fa339,
	} {
		if got := check.Sum(s); got != want {
			t.Errorf("Sum(%q): %08x, not %08x", s, got, want)
		}
	}
}

// P2.1: the library's own sum of that name is the same.
func TestSumOfMany(t *testing.T) {
	hold := func(s string) {
		if got := check.Sum(s); got != sumOf(s) || got != crc32.ChecksumIEEE([]byte(s)) {
			t.Fatalf("Sum(%.20x (%d bytes)): %08x, not %08x", s, len(s), got, sumOf(s))
		}
	}
	for _, s := range texts() {
		hold(s)
	}
	for i := range 1 << 12 {
		hold(string([]byte{byte(i >> 4), byte(i * 17)}))
	}
	r := rand.New(rand.NewSource(2))
	for range 2000 {
		hold(anyBytes(r, r.Intn(100)))
	}
	hold(anyBytes(r, 65537))
	hold(anyBytes(r, 1<<18))
}

// P2.1: a sum goes on at each place, also in many small parts.
func TestAddGoesOn(t *testing.T) {
	r := rand.New(rand.NewSource(3))
	for _, s := range []string{"", "a", "123456789", strings.Repeat("\x00", 20), strings.Repeat("\xff", 20), anyBytes(r, 300)} {
		want, parts := sumOf(s), uint32(0)
		for k := range len(s) + 1 {
			if got := check.Add(check.Sum(s[:k]), s[k:]); got != want {
				t.Errorf("Add of %.20x, at %d: %08x, not %08x", s, k, got, want)
			}
			if k > 0 {
				parts = check.Add(parts, s[k-1:k])
			}
		}
		if parts != want {
			t.Errorf("Add of %.20x, byte by byte: %08x, not %08x", s, parts, want)
		}
	}
}

// P2.1: any sum is one of some bytes, and goes on; with no bytes it stays.
func TestAddToAnySum(t *testing.T) {
	r := rand.New(rand.NewSource(4))
	sums := []uint32{0, 1, 2, 0x7fffffff, 0x80000000, 0xedb88320, 0xfffffffe, 0xffffffff}
	for k := range 32 {
		sums = append(sums, 1<<k, r.Uint32())
	}
	for _, sum := range sums {
		if got := check.Add(sum, ""); got != sum {
			t.Errorf("Add(%08x, none): %08x", sum, got)
		}
		for _, s := range []string{"\x00", "a", "\xff", "123456789", anyBytes(r, 50)} {
			if got, want := check.Add(sum, s), crc32.Update(sum, crc32.IEEETable, []byte(s)); got != want {
				t.Errorf("Add(%08x, %x): %08x, not %08x", sum, s, got, want)
			}
		}
	}
}

// P2.2
func TestSeal(t *testing.T) {
	for s, want := range map[string]string{
		"":          "\x00\x00\x00\x00\x00",
		"a":         "\x01a\x43\xbe\xb7\xe8",
		"\x00":      "\x01\x00\x8d\xef\x02\xd2",
		"123456789": "\x09123456789\x26\x39\xf4\xcb",
	} {
		if got := check.Seal(s); got != want {
			t.Errorf("Seal(%q): %x, not %x", s, got, want)
		}
	}
	for _, s := range append(texts(), strings.Repeat("b", 65537), strings.Repeat("c", 67824)) {
		if got := check.Seal(s); got != sealOf(s) {
			t.Errorf("Seal(%.20x (%d bytes)): %.20x (%d bytes)", s, len(s), got, len(got))
		}
	}
}

// P2.2: whatever stands ahead and behind.
func TestOpen(t *testing.T) {
	wantOpen(t, "\x01a\x43\xbe\xb7\xe8", 0, "a", 6, api.OK)
	for _, s := range texts() {
		x := sealOf(s)
		wantOpen(t, x, 0, s, len(x), api.OK)
		wantOpen(t, "\xff\xff"+x+"\xff", 2, s, 2+len(x), api.OK)
		wantOpen(t, "\x00\x00\x00"+x+"\x00\x00\x00\x00\x00", 3, s, 3+len(x), api.OK)
	}
}

// P2.2
func TestOpenAtNoPlace(t *testing.T) {
	for _, s := range []string{"", "\x00", "\xf1", sealOf(""), sealOf("abc"), sealOf("abc") + "\xff"} {
		for _, at := range []int{-1, -2, math.MinInt, len(s) + 1, len(s) + 2, math.MaxInt} {
			wantOpen(t, s, at, "", 0, api.ErrArg)
		}
		wantOpen(t, s, len(s), "", 0, api.ErrShort)
	}
}

// P2.2: cut off at each place, be it in the number, the bytes or the sum; and with a wrong sum, that there is too little of.
func TestOpenOfTooFew(t *testing.T) {
	r := rand.New(rand.NewSource(5))
	for _, s := range []string{"", "a", "abc", "\x00\x00", "\xff\xff\xff\xff", anyBytes(r, 240), anyBytes(r, 241), anyBytes(r, 2288)} {
		x := sealOf(s)
		for size := range len(x) {
			wantFault(t, x[:size], api.ErrShort)
		}
		for size := range 4 {
			wantFault(t, varint.Text(s)+"\xaa\x55\xaa"[:size], api.ErrShort)
		}
	}
	most := sealOf(strings.Repeat("m", 65536))
	for size := 1; size <= 6; size++ {
		wantFault(t, most[:len(most)-size], api.ErrShort)
	}
	for _, s := range []string{"\x01", "\xf0", "\xf1", "\xf9\x00", "\xff\xff\xff", varint.Put(65536)} {
		wantFault(t, s, api.ErrShort)
	}
}

// P2.2: bytes that are not a number's own, with what would be the right sum behind them.
func TestOpenOfNoNumber(t *testing.T) {
	for _, s := range []string{"\xf1\x00", "\xf1\x00" + strings.Repeat("a", 240), "\xfa\x00\x00\x00", "\xfa\x00\x00\x01a", "\xfb\x00\x00\x00\x00", "\xff\x00\x00\x00\x00\x00\x00\x00\x01a", "\xff\x00\xff\xff\xff\xff\xff\xff\xff"} {
		wantFault(t, s, api.ErrForm)
		wantFault(t, s+"\x00\x00\x00\x00", api.ErrForm)
		wantFault(t, s+"\x43\xbe\xb7\xe8", api.ErrForm)
	}
}

// P2.2: 65536 bytes are opened, 65537 are not, though their sum is right; that they are too many is told ahead of that they are not there.
func TestOpenOfMost(t *testing.T) {
	r := rand.New(rand.NewSource(6))
	for _, most := range []string{anyBytes(r, 65536), strings.Repeat("\x00", 65536)} {
		x := sealOf(most)
		wantOpen(t, x, 0, most, len(x), api.OK)
		wantOpen(t, "ab"+x+"c", 2, most, 2+len(x), api.OK)
		wantFault(t, sealOf(most+"\x00"), api.ErrBig)
		wantFault(t, check.Seal(most+"a"), api.ErrBig)
	}
	for _, s := range []string{"\xf9\xf7\x11", varint.Put(67824), varint.Put(1 << 32), varint.Put(1 << 63), varint.Put(math.MaxUint64), varint.Put(math.MaxUint64) + "a\x43\xbe\xb7\xe8"} {
		wantFault(t, s, api.ErrBig)
	}
}

// P2.2: among the wrong sums are the right one the other way round, the one without its bits turned, and the one of the number and the bytes.
func TestOpenOfWrongSum(t *testing.T) {
	for _, s := range []string{"\x01a\xe8\xb7\xbe\x43", "\x01a\xbc\x41\x48\x17", "\x01a\x00\x00\x00\x00", "\x01a\xff\xff\xff\xff", "\x01b\x43\xbe\xb7\xe8", "\x00\xff\xff\xff\xff", "\x00\x01\x00\x00\x00", "\x00\x43\xbe\xb7\xe8"} {
		wantFault(t, s, api.ErrSum)
		wantFault(t, s+sealOf("a"), api.ErrSum)
	}
	for _, s := range []string{"a", "abc", "123456789"} {
		x := varint.Text(s)
		wantFault(t, x+sealOf(x)[1+len(x):], api.ErrSum)
		for d := range uint32(1000) {
			n := sumOf(s) + d + 1
			wantFault(t, x+string([]byte{byte(n), byte(n >> 8), byte(n >> 16), byte(n >> 24)}), api.ErrSum)
		}
	}
}

// P2.2: what is opened of any bytes are just the bytes that are sealed of it.
func TestOpenOfAnyBytes(t *testing.T) {
	r := rand.New(rand.NewSource(7))
	some := []byte{0, 1, 2, 241, 249, 255}
	for range 20000 {
		b := make([]byte, r.Intn(12))
		for i := range b {
			b[i] = some[r.Intn(len(some))]
		}
		s, at := string(b), r.Intn(len(b)+1)
		text, to, e := check.Open(s, at)
		if e == api.OK && (to <= at || to > len(s) || s[at:to] != sealOf(text)) {
			t.Fatalf("Open(%x, %d): %x, %d", s, at, text, to)
		}
		if e != api.OK && (text != "" || to != 0 || e != api.ErrShort && e != api.ErrForm && e != api.ErrBig && e != api.ErrSum) {
			t.Fatalf("Open(%x, %d): %x, %d, %d", s, at, text, to, e)
		}
	}
}

// P2.3
func TestAll(t *testing.T) {
	wantAll(t, "", nil, 0)
	wantAll(t, "\x00\x00\x00\x00\x00", []string{""}, 5)
	wantAll(t, "\x00\x00\x00\x00\x00\x01a\x43\xbe\xb7\xe8", []string{"", "a"}, 11)
	wantAll(t, sealOf("a")+sealOf("a"), []string{"a", "a"}, 12)
	var row strings.Builder
	for _, s := range texts() {
		row.WriteString(sealOf(s))
	}
	wantAll(t, row.String(), texts(), row.Len())
	wantAll(t, strings.Repeat(sealOf(""), 20000), make([]string, 20000), 100000)
}

// P2.3: each error ends it, at the place where it is, whatever stands behind: what is whole there is not told.
func TestAllEnds(t *testing.T) {
	for _, bad := range []string{"\x05ab\x00\x00\x00\x00", "\x01a\x43\xbe\xb7\xe9", "\x01", "\xff", "\xf1\x00", "\xf9\xf7\x11", sealOf(strings.Repeat("a", 65537))} {
		wantAll(t, bad, nil, 0)
		for _, first := range [][]string{{""}, {"abc"}, {"a", "", "b"}} {
			var row strings.Builder
			for _, s := range first {
				row.WriteString(sealOf(s))
			}
			wantAll(t, row.String()+bad, first, row.Len())
		}
	}
	for _, bad := range []string{"\x01a\x43\xbe\xb7\xe9", "\xf1\x00", "\xf9\xf7\x11", "\x00\x00\x00\x00"} {
		wantAll(t, bad+sealOf("abc"), nil, 0)
		wantAll(t, sealOf("abc")+bad+sealOf("abc")+sealOf("d"), []string{"abc"}, 8)
	}
}

// P2.3: an answer shares nothing with another one, its spare room neither.
func TestAllIsNew(t *testing.T) {
	s := sealOf("a") + sealOf("b") + sealOf("c")
	first, _ := check.All(s)
	second, _ := check.All(s)
	first[0] = "x"
	_ = append(first, "y")
	second = append(second, "z")
	wantAll(t, s, []string{"a", "b", "c"}, len(s))
	if !slices.Equal(first, []string{"x", "b", "c"}) || !slices.Equal(second, []string{"a", "b", "c", "z"}) {
		t.Error(first, second)
	}
}

// P2.4
func TestWhatIsSealedIsOpened(t *testing.T) {
	hold := func(s string) {
		x := check.Seal(s)
		wantOpen(t, x, 0, s, len(x), api.OK)
		wantOpen(t, "\xf1"+x+x, 1, s, 1+len(x), api.OK)
		wantOpen(t, "\xf1"+x+x, 1+len(x), s, 1+2*len(x), api.OK)
		wantAll(t, x+x, []string{s, s}, 2*len(x))
	}
	for _, s := range texts() {
		hold(s)
		if len(s) < 60000 {
			hold(check.Seal(s))
		}
	}
	r := rand.New(rand.NewSource(8))
	for range 1000 {
		hold(anyBytes(r, r.Intn(300)))
	}
}

// P2.4: each single bit of the bytes, and of the sum.
func TestTurnedBitIsFound(t *testing.T) {
	r := rand.New(rand.NewSource(9))
	for _, s := range []string{"", "a", "\x00", "\xff", "123456789", strings.Repeat("\x00", 64), strings.Repeat("\xff", 64), check.Seal("abc"), anyBytes(r, 240), anyBytes(r, 241), anyBytes(r, 300)} {
		x := check.Seal(s)
		for bit := 8 * varint.Size(uint64(len(s))); bit < 8*len(x); bit++ {
			bad := turned(x, bit)
			wantFault(t, bad, api.ErrSum)
			wantAll(t, bad, nil, 0)
			wantAll(t, x+bad+x, []string{s}, len(x))
		}
	}
}

// P2.4: of the most bytes the first ones, the last ones, the sum's, and some between.
func TestTurnedBitOfManyIsFound(t *testing.T) {
	r := rand.New(rand.NewSource(10))
	x := check.Seal(anyBytes(r, 65536))
	var bits []int
	for i := range 64 {
		bits = append(bits, 3*8+i, 8*len(x)-1-i, 3*8+r.Intn(8*65536))
	}
	for _, bit := range bits {
		if text, to, e := check.Open(turned(x, bit), 0); text != "" || to != 0 || e != api.ErrSum {
			t.Errorf("the bit %d: %d bytes, %d, %d", bit, len(text), to, e)
		}
	}
}

// P2.4: cut off at each place, in the midst of one and just between two.
func TestAllOfCutOff(t *testing.T) {
	r := rand.New(rand.NewSource(11))
	for _, row := range [][]string{
		{"abc"},
		{"", "", ""},
		{"a", "", "123456789", check.Seal("b"), "\x00\x00\x00\x00\x00", "\xff"},
		{anyBytes(r, 240), anyBytes(r, 241), "", anyBytes(r, 300)},
		{anyBytes(r, 2288), "a"},
	} {
		s, ends := "", []int{0}
		for _, x := range row {
			s += check.Seal(x)
			ends = append(ends, len(s))
		}
		whole := 0
		for size := range len(s) + 1 {
			if whole < len(row) && ends[whole+1] <= size {
				whole++
			}
			wantAll(t, s[:size], row[:whole], ends[whole])
		}
		if whole != len(row) {
			t.Errorf("%d of %d", whole, len(row))
		}
	}
}
