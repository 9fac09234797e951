// Package varint is layer 1: numbers as bytes that stand in the numbers' order: see shared/doc/01-varint.md.
package varint

import (
	"strings"

	"rivulet/api"
)

// longest is the most bytes that a text may have to be cut.
const longest = 65536

// width is what the numbers of one count of bytes have in common.
type width struct {
	first byte   // the least first byte
	base  uint64 // what is taken off a number ahead of its bytes
	top   uint64 // the greatest number
}

// widths has the numbers of i + 1 bytes at i. First bytes, and tops, rise from row to row: on that the order of
// numbers' bytes hangs.
var widths = [9]width{
	{0, 0, 240},
	{241, 240, 2287},
	{249, 2288, 67823},
	{250, 0, 0xff_ffff},
	{251, 0, 0xffff_ffff},
	{252, 0, 0xff_ffff_ffff},
	{253, 0, 0xffff_ffff_ffff},
	{254, 0, 0xff_ffff_ffff_ffff},
	{255, 0, 0xffff_ffff_ffff_ffff},
}

// Put is a number as bytes.
func Put(n uint64) string {
	size := Size(n)
	row := widths[size-1]
	rest := n - row.base
	out := make([]byte, size)
	for i := range size {
		out[size-1-i] = byte(rest >> (8 * i))
	}
	// Of two bytes the first one also has the high part of the rest; of more it has nothing of it, and of 9 the shift
	// by 64 leaves 0.
	out[0] += row.first
	return string(out)
}

// Size is how many bytes Put makes of a number.
func Size(n uint64) int {
	for i := range len(widths) {
		if n <= widths[i].top {
			return i + 1
		}
	}
	return len(widths)
}

// sizeBehind is how many bytes a first byte asks for, itself among them.
func sizeBehind(first byte) int {
	size := 1
	for i := range len(widths) {
		if first >= widths[i].first {
			size = i + 1
		}
	}
	return size
}

// tell is the number that bytes tell, be they its own or too many; there are as many as the first one asks for.
func tell(s string) uint64 {
	row := widths[len(s)-1]
	n := uint64(s[0] - row.first)
	for i := range len(s) - 1 {
		n = n<<8 | uint64(s[i+1])
	}
	return n + row.base
}

// Get is the number that begins at a place, and the place behind it.
func Get(s string, at int) (uint64, int, api.Errno) {
	if at < 0 || at > len(s) {
		return 0, 0, api.ErrArg
	}
	if at == len(s) {
		return 0, 0, api.ErrShort
	}
	size := sizeBehind(s[at])
	if len(s)-at < size {
		return 0, 0, api.ErrShort
	}
	n := tell(s[at : at+size])
	if Size(n) != size {
		return 0, 0, api.ErrForm
	}
	return n, at + size, api.OK
}

// Text is a text as bytes, behind its length. A text that is too long for Cut is put all the same.
func Text(s string) string {
	return Put(uint64(len(s))) + s
}

// Cut is the text that begins at a place, and the place behind it.
func Cut(s string, at int) (string, int, api.Errno) {
	n, from, e := Get(s, at)
	if e != api.OK {
		return "", 0, e
	}
	if n > longest {
		return "", 0, api.ErrBig
	}
	size := int(n)
	if len(s)-from < size {
		return "", 0, api.ErrShort
	}
	// A piece of s would hold all of s in memory as long as it lives.
	return strings.Clone(s[from : from+size]), from + size, api.OK
}

// Less tells whether bytes stand ahead of others, byte by byte.
func Less(a, b string) bool {
	return a < b
}
