package field_test

import (
	"math"
	"math/rand"
	"strings"
	"testing"

	"budwood/api"
	"budwood/field"
)

// eight is a number each byte of which is another one, so that a wrong order shows.
const eight = 0xf8e7d6c5b4a39281

// P1.1: Get, ordinary inputs and edges.
func TestGet(t *testing.T) {
	s := "\x81\x92\xa3\xb4\xc5\xd6\xe7\xf8\x00\xff"
	for i, x := range []struct {
		at, size int
		want     uint64
	}{
		{0, 1, 0x81}, {0, 2, 0x9281}, {0, 3, 0xa39281}, {0, 4, 0xb4a39281},
		{0, 5, 0xc5b4a39281}, {0, 6, 0xd6c5b4a39281}, {0, 7, 0xe7d6c5b4a39281}, {0, 8, eight},
		{3, 2, 0xc5b4}, {8, 1, 0}, {8, 2, 0xff00},
		{9, 1, 0xff}, {2, 8, 0xff00f8e7d6c5b4a3}, // up to the end of s
	} {
		if n, e := field.Get(s, x.at, x.size); n != x.want || e != api.OK {
			t.Errorf("%d: Get(at %d, size %d) = %#x, %d; want %#x", i, x.at, x.size, n, e, x.want)
		}
	}
	if n, e := field.Get("\xff\xff\xff\xff\xff\xff\xff\xff", 0, 8); n != math.MaxUint64 || e != api.OK {
		t.Errorf("all bits: %#x, %d", n, e)
	}
}

// P1.1: Put, ordinary inputs and edges.
func TestPut(t *testing.T) {
	s := "abcdefghij"
	for i, x := range []struct {
		at, size int
		n        uint64
		want     string
	}{
		{1, 2, 0x4241, "aABdefghij"},
		{0, 1, 0, "\x00bcdefghij"}, {0, 1, 255, "\xffbcdefghij"},
		{9, 1, 0x21, "abcdefghi!"}, {8, 2, 0xffff, "abcdefgh\xff\xff"},
		{0, 8, eight, "\x81\x92\xa3\xb4\xc5\xd6\xe7\xf8ij"},
		{2, 8, math.MaxUint64, "ab\xff\xff\xff\xff\xff\xff\xff\xff"},
		{2, 8, 1 << 63, "ab\x00\x00\x00\x00\x00\x00\x00\x80"},
		{3, 4, 1, "abc\x01\x00\x00\x00hij"}, // a small number takes all its bytes
	} {
		if got, e := field.Put(s, x.at, x.size, x.n); got != x.want || e != api.OK {
			t.Errorf("%d: %q, %d; want %q", i, got, e, x.want)
		}
	}
}

// P1.1: what has room in a size, and the first number that has not.
func TestPutRoom(t *testing.T) {
	s := strings.Repeat("z", 8)
	for size := 1; size <= 7; size++ {
		first := uint64(1) << (8 * size)
		if got, e := field.Put(s, 0, size, first-1); got != strings.Repeat("\xff", size)+s[size:] || e != api.OK {
			t.Errorf("size %d: %q, %d", size, got, e)
		}
		for _, n := range []uint64{first, first + 1, 1 << 63, math.MaxUint64} {
			if got, e := field.Put(s, 0, size, n); got != "" || e != api.ErrBig {
				t.Errorf("size %d, %#x: %q, %d; want ErrBig", size, n, got, e)
			}
		}
	}
}

// P1.1: wrong inputs, Get's and Put's alike.
func TestNumberErrors(t *testing.T) {
	for i, x := range []struct {
		s        string
		at, size int
		want     api.Errno
	}{
		{"abcd", 0, 0, api.ErrArg}, {"abcd", 0, -1, api.ErrArg}, {"abcd", 0, 9, api.ErrArg},
		{"abcdefghi", 0, 9, api.ErrArg}, // although s has 9 bytes
		{"abcd", 0, math.MaxInt, api.ErrArg}, {"abcd", 0, math.MinInt, api.ErrArg},
		{"abcd", -1, 1, api.ErrArg}, {"abcd", 5, 1, api.ErrArg}, {"", 1, 1, api.ErrArg},
		{"abcd", math.MaxInt, 8, api.ErrArg}, {"abcd", math.MinInt, 8, api.ErrArg},
		{"abcd", 4, 9, api.ErrArg}, {"abcd", 4, 0, api.ErrArg}, // ahead of ErrShort
		{"", 0, 1, api.ErrShort}, {"", 0, 8, api.ErrShort},
		{"abcd", 4, 1, api.ErrShort}, {"abcd", 3, 2, api.ErrShort}, {"abcd", 0, 5, api.ErrShort}, {"abcd", 0, 8, api.ErrShort},
	} {
		if n, e := field.Get(x.s, x.at, x.size); n != 0 || e != x.want {
			t.Errorf("%d: Get = %d, %d; want 0, %d", i, n, e, x.want)
		}
		// The greatest number has no room in most of these sizes: ErrBig comes behind the others.
		for _, n := range []uint64{0, math.MaxUint64} {
			if got, e := field.Put(x.s, x.at, x.size, n); got != "" || e != x.want {
				t.Errorf("%d: Put %d = %q, %d; want empty, %d", i, n, got, e, x.want)
			}
		}
	}
}

// P1.2: Text, ordinary inputs and edges.
func TestText(t *testing.T) {
	long := strings.Repeat("x", 255)
	for i, x := range []struct {
		s    string
		at   int
		want string
		to   int
	}{
		{"\x02abc", 0, "ab", 3}, {"\x03abc", 0, "abc", 4},
		{"\x00", 0, "", 1}, {"ab\x00", 2, "", 3}, {"\x00abc", 0, "", 1},
		{"abc\x01d", 3, "d", 5}, {"a\x02\x00\xffz", 1, "\x00\xff", 4},
		{"\xff" + long, 0, long, 256}, {"ab\xff" + long + "c", 2, long, 258},
	} {
		if got, to, e := field.Text(x.s, x.at); got != x.want || to != x.to || e != api.OK {
			t.Errorf("%d: %q, %d, %d; want %q, %d", i, got, to, e, x.want, x.to)
		}
	}
}

// P1.2: Text, wrong inputs.
func TestTextErrors(t *testing.T) {
	for i, x := range []struct {
		s    string
		at   int
		want api.Errno
	}{
		{"abc", -1, api.ErrArg}, {"abc", 4, api.ErrArg}, {"", 1, api.ErrArg}, {"", -1, api.ErrArg},
		{"abc", math.MaxInt, api.ErrArg}, {"abc", math.MinInt, api.ErrArg},
		{"", 0, api.ErrShort}, {"abc", 3, api.ErrShort}, // no byte there
		{"\x01", 0, api.ErrShort}, {"\x03ab", 0, api.ErrShort}, {"ab\x02c", 2, api.ErrShort},
		{"\xff" + strings.Repeat("x", 254), 0, api.ErrShort},
	} {
		if got, to, e := field.Text(x.s, x.at); got != "" || to != 0 || e != x.want {
			t.Errorf("%d: %q, %d, %d; want empty, 0, %d", i, got, to, e, x.want)
		}
	}
}

// P1.2: PutText, ordinary inputs and edges.
func TestPutText(t *testing.T) {
	long, room := strings.Repeat("x", 255), strings.Repeat("-", 256)
	for i, x := range []struct {
		s    string
		at   int
		text string
		want string
		to   int
	}{
		{"abcd", 0, "xy", "\x02xyd", 3}, {"abcd", 1, "x", "a\x01xd", 3},
		{"abcd", 0, "xyz", "\x03xyz", 4}, {"abcd", 2, "z", "ab\x01z", 4},
		{"abcd", 0, "", "\x00bcd", 1}, {"abcd", 3, "", "abc\x00", 4},
		{"abcd", 1, "\x00\xff", "a\x02\x00\xff", 4},
		{room, 0, long, "\xff" + long, 256}, {"a" + room + "b", 1, long, "a\xff" + long + "b", 257},
	} {
		if got, to, e := field.PutText(x.s, x.at, x.text); got != x.want || to != x.to || e != api.OK {
			t.Errorf("%d: %q, %d, %d; want %q, %d", i, got, to, e, x.want, x.to)
		}
	}
}

// P1.2: PutText, wrong inputs, and which error comes first.
func TestPutTextErrors(t *testing.T) {
	long, room := strings.Repeat("x", 256), strings.Repeat("-", 300)
	for i, x := range []struct {
		s    string
		at   int
		text string
		want api.Errno
	}{
		{"abcd", -1, "", api.ErrArg}, {"abcd", 5, "", api.ErrArg}, {"", 1, "", api.ErrArg},
		{"abcd", math.MaxInt, "x", api.ErrArg}, {"abcd", math.MinInt, "x", api.ErrArg},
		{"abcd", 5, long, api.ErrArg}, // ahead of both others
		{room, 0, long, api.ErrBig}, {room, 0, room, api.ErrBig},
		{"abcd", 0, long, api.ErrBig}, {"abcd", 4, long, api.ErrBig}, // ahead of ErrShort
		{"", 0, "", api.ErrShort}, {"abcd", 4, "", api.ErrShort},
		{"abcd", 0, "wxyz", api.ErrShort}, {"abcd", 3, "x", api.ErrShort},
		{room[:255], 0, long[:255], api.ErrShort},
	} {
		if got, to, e := field.PutText(x.s, x.at, x.text); got != "" || to != 0 || e != x.want {
			t.Errorf("%d: %q, %d, %d; want empty, 0, %d", i, got, to, e, x.want)
		}
	}
}

// P1.3: Pad.
func TestPad(t *testing.T) {
	zeros, full := strings.Repeat("\x00", 65536), strings.Repeat("x", 65536)
	for i, x := range []struct {
		s    string
		n    int
		want string
		e    api.Errno
	}{
		{"ab", 4, "ab\x00\x00", api.OK}, {"ab", 2, "ab", api.OK}, {"\x00a", 3, "\x00a\x00", api.OK},
		{"", 0, "", api.OK}, {"", 1, "\x00", api.OK},
		{"", 65536, zeros, api.OK}, {"a", 65536, "a" + zeros[1:], api.OK}, {full, 65536, full, api.OK},
		{"ab", 1, "", api.ErrBig}, {"a", 0, "", api.ErrBig}, {"\x00", 0, "", api.ErrBig}, {full + "x", 65536, "", api.ErrBig},
		{"", -1, "", api.ErrArg}, {"", 65537, "", api.ErrArg}, {"", math.MaxInt, "", api.ErrArg}, {"", math.MinInt, "", api.ErrArg},
		{"ab", -1, "", api.ErrArg}, {full + "xy", 65537, "", api.ErrArg}, // ahead of ErrBig
	} {
		if got, e := field.Pad(x.s, x.n); got != x.want || e != x.e {
			t.Errorf("%d: %d bytes, %d; want %d bytes, %d", i, len(got), e, len(x.want), x.e)
		}
	}
}

// P1.3: Bare.
func TestBare(t *testing.T) {
	for i, x := range []struct{ s, want string }{
		{"", ""}, {"a", "a"}, {"a\x00", "a"}, {"a\x00\x00", "a"}, {"\x00", ""}, {"\x00\x00\x00", ""},
		{"\x00a", "\x00a"}, {"a\x00b\x00", "a\x00b"}, {"a0 ", "a0 "}, {"a\x00\xff", "a\x00\xff"},
		{strings.Repeat("\x00", 65536), ""}, {"a" + strings.Repeat("\x00", 70000), "a"},
	} {
		if got := field.Bare(x.s); got != x.want {
			t.Errorf("%d: %q; want %q", i, got, x.want)
		}
	}
}

// P1.4: a number that is put is got, and no other byte changes.
func TestNumberPutIsGot(t *testing.T) {
	s := "abcdefghijkl"
	for size := 1; size <= 8; size++ {
		for at := 0; at+size <= len(s); at++ {
			for _, n := range []uint64{0, 1, 0x80, eight, math.MaxUint64} {
				n &= math.MaxUint64 >> (64 - 8*size) // as much of it as has room
				got, e := field.Put(s, at, size, n)
				if e != api.OK || len(got) != len(s) || got[:at] != s[:at] || got[at+size:] != s[at+size:] {
					t.Fatalf("at %d, size %d: %q, %d", at, size, got, e)
				}
				if m, e := field.Get(got, at, size); m != n || e != api.OK {
					t.Fatalf("at %d, size %d: put %#x, got %#x, %d", at, size, n, m, e)
				}
			}
		}
	}
}

// P1.4: a text that is put is got, and no other byte changes.
func TestTextPutIsGot(t *testing.T) {
	s := strings.Repeat("0123456789", 30)
	for size := 0; size <= 255; size++ {
		text := strings.Repeat("\x00\xffz", 85)[:size]
		for _, at := range []int{0, 1, 7, len(s) - size - 1} {
			got, to, e := field.PutText(s, at, text)
			if e != api.OK || to != at+1+size || len(got) != len(s) || got[:at] != s[:at] || got[to:] != s[to:] {
				t.Fatalf("at %d, %d bytes: %q, %d, %d", at, size, got, to, e)
			}
			if back, end, e := field.Text(got, at); back != text || end != to || e != api.OK {
				t.Fatalf("at %d, %d bytes: %q, %d, %d", at, size, back, end, e)
			}
		}
	}
}

// P1.4: what is bare, padded to its old length, is what it was.
func TestBarePadded(t *testing.T) {
	r := rand.New(rand.NewSource(1))
	for range 2000 {
		b := make([]byte, r.Intn(12))
		for i := range b {
			b[i] = byte(r.Intn(3)) // few values, so that many end in bytes 0
		}
		s := string(b)
		bare := field.Bare(s)
		if strings.HasSuffix(bare, "\x00") {
			t.Fatalf("%q: %q is not bare", s, bare)
		}
		if back, e := field.Pad(bare, len(s)); back != s || e != api.OK {
			t.Fatalf("%q: %q, %d", s, back, e)
		}
	}
	whole := "ab" + strings.Repeat("\x00", 65534)
	if back, e := field.Pad(field.Bare(whole), len(whole)); back != whole || e != api.OK {
		t.Errorf("65536 bytes: %d bytes, %d", len(back), e)
	}
}
