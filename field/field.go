// Package field is layer 1: numbers and texts at places of bytes: see shared/doc/01-field.md.
package field

import (
	"strings"

	"budwood/api"
)

const (
	maxSize = 8     // bytes of a number: a uint64 has no more
	maxText = 255   // bytes of a text: its length stands in one byte
	maxPad  = 65536 // bytes up to which a text is padded
)

// Get is the number of some bytes at a place; Put is the bytes with another one there.
func Get(s string, at, size int) (uint64, api.Errno) {
	if e := numberAt(s, at, size); e != api.OK {
		return 0, e
	}
	n := uint64(0)
	for i := range size {
		n |= uint64(s[at+i]) << (8 * i)
	}
	return n, api.OK
}

func Put(s string, at, size int, n uint64) (string, api.Errno) {
	if e := numberAt(s, at, size); e != api.OK {
		return "", e
	}
	if n>>(8*size) != 0 { // a shift by all 64 bits leaves 0, so that 8 bytes have room for every n
		return "", api.ErrBig
	}
	b := make([]byte, len(s))
	copy(b, s)
	for i := range size {
		b[at+i] = byte(n >> (8 * i))
	}
	return string(b), api.OK
}

// Text is the text at a place, behind a byte that is its length; PutText is the bytes with another one there.
func Text(s string, at int) (string, int, api.Errno) {
	if !placeIn(s, at) {
		return "", 0, api.ErrArg
	}
	if at == len(s) {
		return "", 0, api.ErrShort
	}
	from := at + 1
	n := int(s[at])
	if len(s)-from < n {
		return "", 0, api.ErrShort
	}
	return strings.Clone(s[from : from+n]), from + n, api.OK
}

func PutText(s string, at int, t string) (string, int, api.Errno) {
	if !placeIn(s, at) {
		return "", 0, api.ErrArg
	}
	if len(t) > maxText {
		return "", 0, api.ErrBig
	}
	if len(s)-at < len(t)+1 {
		return "", 0, api.ErrShort
	}
	b := make([]byte, len(s))
	copy(b, s)
	b[at] = byte(len(t))
	copy(b[at+1:], t)
	return string(b), at + 1 + len(t), api.OK
}

// Pad is a text with bytes 0 behind it, up to a length; Bare is one without the bytes 0 at its end.
func Pad(s string, n int) (string, api.Errno) {
	if n < 0 || n > maxPad {
		return "", api.ErrArg
	}
	if len(s) > n {
		return "", api.ErrBig
	}
	b := make([]byte, n)
	copy(b, s)
	return string(b), api.OK
}

func Bare(s string) string {
	n := len(s)
	for n > 0 && s[n-1] == 0 {
		n--
	}
	return strings.Clone(s[:n])
}

// numberAt tells what keeps a number of some bytes from standing at a place.
func numberAt(s string, at, size int) api.Errno {
	if size < 1 || size > maxSize || !placeIn(s, at) {
		return api.ErrArg
	}
	if len(s)-at < size { // no sum of both, lest it run over
		return api.ErrShort
	}
	return api.OK
}

// placeIn tells whether a place is one of s, the one behind its last byte too.
func placeIn(s string, at int) bool { return at >= 0 && at <= len(s) }
