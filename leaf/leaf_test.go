package leaf_test

import (
	"fmt"
	"math"
	"slices"
	"strings"
	"testing"
	"unsafe"

	"budwood/api"
	"budwood/leaf"
)

func pair(key, value string) api.Pair { return api.Pair{Key: key, Value: value} }

// of is a leaf of keys with values, one behind the other.
func of(high string, next int, texts ...string) leaf.Leaf {
	l := leaf.Leaf{High: high, Next: next}
	for i := 0; i < len(texts); i += 2 {
		l.Pairs = append(l.Pairs, pair(texts[i], texts[i+1]))
	}
	return l
}

// sized is a leaf whose pairs have such sizes (2 and both lengths, each): their keys are of one byte, 'A' and those behind it, as long as the value has room, and longer ones where it has not.
func sized(sizes ...int) leaf.Leaf {
	var l leaf.Leaf
	for i, n := range sizes {
		key := string(rune('A' + i))
		value := strings.Repeat("v", min(n-3, 32))
		key += strings.Repeat("k", n-3-len(value))
		l.Pairs = append(l.Pairs, pair(key, value))
	}
	return l
}

// long is a text of so many bytes, that begins with another one.
func long(t string, n int) string { return t + strings.Repeat("z", n-len(t)) }

func bare(l leaf.Leaf) bool { return len(l.Pairs) == 0 && l.High == "" && l.Next == 0 }

// edges are leaves that may be, ordinary ones and such as stand at the edge of what may be.
func edges() []leaf.Leaf {
	least := leaf.Leaf{}
	for i := range 77 {
		least.Pairs = append(least.Pairs, pair(string([]byte{byte(i * 3)}), ""))
	}
	most := sized(50, 50, 50, 50, 31)
	high := sized(50, 50, 50, 50, 31)
	high.High, high.Next = long("F", 16), 1024
	return []leaf.Leaf{
		of("", 0), of("", 1), of("", 1024), of("", 255), of("", 256), of("", 769),
		of("a", 0), of("\x00", 0), of("\xff", 5), of(long("h", 16), 1024),
		of("", 0, "a", ""), of("", 0, "\x00", "\x00"), of("", 0, "a", "x"), of("", 0, "a", "a"),
		of("", 0, long("k", 16), long("v", 32)), of("l", 3, long("k", 16), long("v", 32)),
		of("", 0, "a", "", "b", ""), of("", 0, "b", "x", "c", "", "d", "yy"),
		of("", 0, "a", "", "a\x00", "", "a\x00\x00", "", "aa", "", "b", ""),
		of("\xff\xff", 0, "\x00", "", "Z", "", "a", "", "\x7f", "", "\x80", "", "\xff", ""),
		of("ab", 7, "a", "1", "aa", "2"), of("aa\x00", 7, "a", "1", "aa", "2"),
		least, most, high, sized(3, 3), sized(50, 50, 50, 50), sized(3, 50), sized(50, 3),
	}
}

// wrong are leaves that may not be.
func wrong() []leaf.Leaf {
	many := leaf.Leaf{}
	for i := range 78 {
		many.Pairs = append(many.Pairs, pair(string([]byte{byte(i)}), ""))
	}
	all := leaf.Leaf{}
	for i := range 256 {
		all.Pairs = append(all.Pairs, pair(string([]byte{byte(i)}), ""))
	}
	high := sized(50, 50, 50, 50, 32)
	high.High = "F"
	return []leaf.Leaf{
		of("", 0, "", ""), of("", 0, "", "x"), of("", 0, "", "", "a", ""), // no key
		of("", 0, long("k", 17), ""), of("", 0, "a", "", long("k", 17), ""), of("", 0, long("k", 100), ""),
		of("", 0, "a", long("v", 33)), of("", 0, "a", "", "b", long("v", 33)), of("", 0, "a", long("v", 300)),
		of("", 0, "b", "", "a", ""), of("", 0, "a", "x", "a", "x"), of("", 0, "a", "", "a", "x"), // not rising
		of("", 0, "a", "", "c", "", "b", ""), of("", 0, "aa", "", "a", ""), of("", 0, "a\x00", "", "a", ""),
		of("", 0, "a", "", "B", ""), of("", 0, "\x80", "", "\x7f", ""), of("", 0, "a", "", "b", "", "", ""),
		of(long("h", 17), 0), of(long("h", 300), 0), of(long("h", 17), 0, "a", ""), // High is no key
		of("b", 0, "b", ""), of("a", 0, "b", ""), of("b", 0, "a", "", "b", ""), of("ba", 0, "a", "", "bb", ""), // nor above all keys
		of("\x7f", 0, "\x80", ""), of("a", 0, "a\x00", ""), of("b", 0, "a", "", "c", ""),
		of("", -1), of("", 1025), of("", math.MaxInt), of("", math.MinInt), of("b", 1025, "a", ""), of("", -1, "a", ""),
		of("", 1<<32), of("", 1<<16), of("", 1<<16+1),
		sized(50, 50, 50, 50, 32), high, many, all, sized(50, 50, 50, 50, 50), // too large
	}
}

// P10.1: Right, of leaves at the edges.
func TestRight(t *testing.T) {
	for i, l := range edges() {
		if !leaf.Right(l) {
			t.Errorf("%d: %+v may be", i, l)
		}
	}
	for i, l := range wrong() {
		if leaf.Right(l) {
			t.Errorf("%d: %+v may not be", i, l)
		}
	}
}

// P10.1: whether a leaf is too large does not hang on the High that it has: its size may go up to 236, without one.
func TestRightRoom(t *testing.T) {
	for n := 3; n <= 50; n++ {
		l := sized(50, 50, 50, 40, n)
		want := 190+n <= 231
		for _, high := range []string{"", "F", long("F", 15), long("F", 16)} {
			l.High = high
			if got := leaf.Right(l); got != want {
				t.Errorf("%d bytes of pairs, High %q: %v", 190+n, high, got)
			}
			if got := leaf.Size(l); got != 195+n+len(high) {
				t.Errorf("%d bytes of pairs, High %q: size %d", 190+n, high, got)
			}
		}
	}
}

// P10.1: Size, of leaves that may be and of others.
func TestSize(t *testing.T) {
	for i, x := range []struct {
		l    leaf.Leaf
		want int
	}{
		{of("", 0), 5}, {of("", 1024), 5}, {of("a", 0), 6}, {of(long("h", 16), 3), 21},
		{of("", 0, "a", ""), 8}, {of("", 0, "a", "xy"), 10}, {of("cd", 9, "a", "x", "bb", "yyy"), 5 + 2 + 4 + 7},
		{of("", 0, "", ""), 7}, {of("", -1, "b", "", "a", ""), 11}, {of(long("h", 1000), 5000), 1005},
		{of("", 0, long("k", 1000), long("v", 2000)), 3007}, {sized(50, 50, 50, 50, 31), 236}, {sized(50, 50, 50, 50, 50), 255},
	} {
		if got := leaf.Size(x.l); got != x.want {
			t.Errorf("%d: %d; want %d", i, got, x.want)
		}
	}
}

// P10.1: Encode, by hand.
func TestEncode(t *testing.T) {
	for i, x := range []struct {
		l    leaf.Leaf
		want string
	}{
		{of("", 0), "L\x00\x00\x00\x00"},
		{of("", 1), "L\x00\x01\x00\x00"}, {of("", 1024), "L\x00\x00\x04\x00"}, {of("", 0x2fe), "L\x00\xfe\x02\x00"},
		{of("hi", 0), "L\x00\x00\x00\x02hi"}, {of("\x00", 0), "L\x00\x00\x00\x01\x00"},
		{of("", 0, "b", "x"), "L\x01\x00\x00\x00\x01b\x01x"},
		{of("", 0, "b", ""), "L\x01\x00\x00\x00\x01b\x00"}, // the byte 0 at its end is one of its own
		{of("", 0, "\x00", "\x00"), "L\x01\x00\x00\x00\x01\x00\x01\x00"},
		{of("d", 0x301, "a", "A", "bc", "BC"), "L\x02\x01\x03\x01d\x01a\x01A\x02bc\x02BC"},
		{of("", 2, long("k", 16), long("v", 32)), "L\x01\x02\x00\x00\x10k" + strings.Repeat("z", 15) + "\x20v" + strings.Repeat("z", 31)},
	} {
		if got := leaf.Encode(x.l); got != x.want {
			t.Errorf("%d: %q; want %q", i, got, x.want)
		}
	}
	for i, l := range wrong() {
		if got := leaf.Encode(l); got != "" {
			t.Errorf("%d: %+v may not be, but is encoded as %q", i, l, got)
		}
	}
}

// P10.1: what is encoded is decoded, with as many bytes 0 behind it as a page has room for, and is as long as Size tells.
func TestDecode(t *testing.T) {
	for i, l := range edges() {
		s := leaf.Encode(l)
		if len(s) != leaf.Size(l) || len(s) == 0 {
			t.Errorf("%d: %d bytes; want %d", i, len(s), leaf.Size(l))
		}
		for n := len(s); n <= 252; n++ {
			if got, e := leaf.Decode(s + strings.Repeat("\x00", n-len(s))); !leaf.Same(got, l) || e != api.OK {
				t.Errorf("%d, in %d bytes: %+v, %d; want %+v", i, n, got, e, l)
			}
		}
		noLeaf(t, s+strings.Repeat("\x00", 253-len(s)))
		noLeaf(t, s+strings.Repeat("\x00", 256-len(s)))
		for n := range len(s) {
			noLeaf(t, s[:n])
		}
		for n := len(s); n < 252; n++ {
			noLeaf(t, s+strings.Repeat("\x00", n-len(s))+"\x01")
		}
		if len(s) < 250 {
			noLeaf(t, s+"\x00\xff\x00")
		}
	}
}

func noLeaf(t *testing.T, s string) {
	t.Helper()
	if l, e := leaf.Decode(s); !bare(l) || e != api.ErrForm {
		t.Errorf("%q: %+v, %d; want none, ErrForm", s, l, e)
	}
}

// P10.1: bytes that are no leaf's.
func TestDecodeWrong(t *testing.T) {
	for _, s := range []string{
		"", "L", "L\x00", "L\x00\x00", "L\x00\x00\x00", "\x00", strings.Repeat("\x00", 252), strings.Repeat("L", 252),
		"M\x00\x00\x00\x00", "l\x00\x00\x00\x00", "I\x00\x00\x00\x00", "\x00\x00\x00\x00\x00", "\x00L\x00\x00\x00\x00",
		"L\x00\x01\x04\x00", "L\x00\x00\x05\x00", "L\x00\xff\xff\x00", "L\x00\x00\x80\x00", // Next
		"L\x00\x00\x00\x01", "L\x00\x00\x00\x03hi", "L\x00\x00\x00\x11" + long("h", 17), "L\x00\x00\x00\xff" + long("h", 240), // High
		"L\x01\x00\x00\x00", "L\x01\x00\x00\x00\x01", "L\x01\x00\x00\x00\x01b", "L\x01\x00\x00\x00\x01b\x01", "L\x01\x00\x00\x00\x03b\x01x",
		"L\x02\x00\x00\x00\x01b\x01x", "L\xff\x00\x00\x00\x01b\x01x", "L\x00\x00\x00\x00\x01b\x01x", // how many pairs
		"L\x01\x00\x00\x00\x00\x00", "L\x01\x00\x00\x00\x00\x01x", // no key
		"L\x02\x00\x00\x00\x01b\x01x\x00\x00", "L\x02\x00\x00\x00\x01b\x01x" + strings.Repeat("\x00", 100),
		"L\x01\x00\x00\x00\x11" + long("k", 17) + "\x00", "L\x01\x00\x00\x00\x01k\x21" + long("v", 33),
		"L\x02\x00\x00\x00\x01b\x00\x01a\x00", "L\x02\x00\x00\x00\x01a\x00\x01a\x00", // not rising
		"L\x01\x00\x00\x01b\x01b\x00", "L\x01\x00\x00\x01a\x01b\x00", // High is not above all keys
		"L\x01\x00\x00\x00\x01b\x01xy", "L\x00\x00\x00\x00x", "L\x00\x00\x00\x00\x00\x00x", // what stands behind
		"L\x00\x00\x00\x00L\x00\x00\x00\x00",
	} {
		noLeaf(t, s)
	}
	// A leaf too large to be, though its bytes have room on a page: 232 of pairs, without a High.
	s := "L\x05\x00\x00\x00"
	for _, p := range sized(50, 50, 50, 50, 32).Pairs {
		s += string([]byte{byte(len(p.Key))}) + p.Key + string([]byte{byte(len(p.Value))}) + p.Value
	}
	if len(s) != 237 {
		t.Fatal(len(s))
	}
	noLeaf(t, s)
}

// P10.1: Same, of leaves that may be and of others.
func TestSame(t *testing.T) {
	all := append(edges(), wrong()...)
	for i, a := range all {
		for j, b := range all {
			want := i == j || fmt.Sprintf("%q %q %d", a.Pairs, a.High, a.Next) == fmt.Sprintf("%q %q %d", b.Pairs, b.High, b.Next)
			b.Pairs = slices.Clone(b.Pairs)
			if got := leaf.Same(a, b); got != want {
				t.Errorf("%+v, %+v: %v", a, b, got)
			}
		}
	}
	l := of("d", 3, "a", "x", "b", "y")
	for i, m := range []leaf.Leaf{
		of("d", 3), of("d", 3, "a", "x"), of("d", 3, "b", "y"), of("d", 3, "a", "x", "b", ""), of("d", 3, "a", "x", "b", "Y"), of("d", 3, "a", "x", "c", "y"),
		of("d", 3, "b", "y", "a", "x"), of("d", 3, "a", "x", "b", "y", "c", "z"), of("d", 3, "a", "y", "b", "x"), of("d", 3, "ax", "", "b", "y"),
		of("", 3, "a", "x", "b", "y"), of("dd", 3, "a", "x", "b", "y"), of("d", 4, "a", "x", "b", "y"), of("d", 0, "a", "x", "b", "y"), of("", 0),
	} {
		if leaf.Same(l, m) || leaf.Same(m, l) {
			t.Errorf("%d: %+v is not the same", i, m)
		}
	}
	if !leaf.Same(leaf.Leaf{}, leaf.Leaf{Pairs: []api.Pair{}}) || !leaf.Same(leaf.Leaf{Pairs: []api.Pair{}, Next: 2}, leaf.Leaf{Next: 2}) {
		t.Error("an empty list is a nil one")
	}
}

// P10.2: Get.
func TestGet(t *testing.T) {
	l := of("\xff", 3, "b", "x", "c", "", "ca", "\x00", long("d", 16), long("v", 32))
	for _, p := range l.Pairs {
		if v, e := leaf.Get(l, p.Key); v != p.Value || e != api.OK {
			t.Errorf("%q: %q, %d; want %q", p.Key, v, e, p.Value)
		}
	}
	for _, key := range []string{"", "a", "B", "b\x00", "bz", "c\x00", "cb", long("d", 15), long("d", 17), "e", "\xff", "\xff\xff", strings.Repeat("k", 1000), "x"} {
		if v, e := leaf.Get(l, key); v != "" || e != api.ErrNone {
			t.Errorf("%q: %q, %d; want ErrNone", key, v, e)
		}
		if v, e := leaf.Get(leaf.Leaf{}, key); v != "" || e != api.ErrNone {
			t.Errorf("no pairs, %q: %q, %d; want ErrNone", key, v, e)
		}
	}
	for i, l := range wrong() {
		for _, key := range []string{"", "a", "b", "no", long("k", 17)} { // whether it is there, or may be a key, is not asked
			if v, e := leaf.Get(l, key); v != "" || e != api.ErrArg {
				t.Errorf("%d, %q: %q, %d; want ErrArg", i, key, v, e)
			}
		}
	}
}

// puts, putsNot, dels and delsNot tell whether a call answers what it should, and changes nothing of the leaf that it is handed.
func puts(t *testing.T, l leaf.Leaf, key, value string, want leaf.Leaf) {
	t.Helper()
	was := slices.Clone(l.Pairs)
	got, e := leaf.Put(l, key, value)
	if !leaf.Same(got, want) || e != api.OK {
		t.Errorf("Put(%+v, %q, %q) = %+v, %d; want %+v", l, key, value, got, e, want)
	}
	if !leaf.Right(got) {
		t.Errorf("Put(%+v, %q, %q) = %+v, that may not be", l, key, value, got)
	}
	if !slices.Equal(l.Pairs, was) {
		t.Errorf("Put(%+v, %q, %q) has changed its leaf, that was %q", l, key, value, was)
	}
}

func putsNot(t *testing.T, l leaf.Leaf, key, value string, want api.Errno) {
	t.Helper()
	was := slices.Clone(l.Pairs)
	if got, e := leaf.Put(l, key, value); !bare(got) || e != want {
		t.Errorf("Put(%+v, %q, %q) = %+v, %d; want error %d", l, key, value, got, e, want)
	}
	if !slices.Equal(l.Pairs, was) {
		t.Errorf("Put(%+v, %q, %q) has changed its leaf, that was %q", l, key, value, was)
	}
}

func dels(t *testing.T, l leaf.Leaf, key string, want leaf.Leaf) {
	t.Helper()
	was := slices.Clone(l.Pairs)
	if got, e := leaf.Del(l, key); !leaf.Same(got, want) || e != api.OK {
		t.Errorf("Del(%+v, %q) = %+v, %d; want %+v", l, key, got, e, want)
	}
	if !slices.Equal(l.Pairs, was) {
		t.Errorf("Del(%+v, %q) has changed its leaf, that was %q", l, key, was)
	}
}

func delsNot(t *testing.T, l leaf.Leaf, key string, want api.Errno) {
	t.Helper()
	was := slices.Clone(l.Pairs)
	if got, e := leaf.Del(l, key); !bare(got) || e != want {
		t.Errorf("Del(%+v, %q) = %+v, %d; want error %d", l, key, got, e, want)
	}
	if !slices.Equal(l.Pairs, was) {
		t.Errorf("Del(%+v, %q) has changed its leaf, that was %q", l, key, was)
	}
}

// P10.2: Put, of keys that are there and of others.
func TestPut(t *testing.T) {
	puts(t, leaf.Leaf{}, "b", "x", of("", 0, "b", "x"))
	puts(t, leaf.Leaf{}, "b", "", of("", 0, "b", ""))
	puts(t, leaf.Leaf{Pairs: []api.Pair{}}, "\x00", "\x00", of("", 0, "\x00", "\x00"))
	puts(t, leaf.Leaf{}, long("k", 16), long("v", 32), of("", 0, long("k", 16), long("v", 32)))
	l := of("f", 9, "b", "x", "d", "y")
	puts(t, l, "a", "z", of("f", 9, "a", "z", "b", "x", "d", "y"))
	puts(t, l, "c", "z", of("f", 9, "b", "x", "c", "z", "d", "y"))
	puts(t, l, "e", "z", of("f", 9, "b", "x", "d", "y", "e", "z"))
	puts(t, l, "b", "z", of("f", 9, "b", "z", "d", "y"))
	puts(t, l, "d", "z", of("f", 9, "b", "x", "d", "z"))
	puts(t, l, "d", "y", l)
	puts(t, l, "b", "", of("f", 9, "b", "", "d", "y"))
	puts(t, l, "b\x00", "z", of("f", 9, "b", "x", "b\x00", "z", "d", "y"))
	puts(t, l, "B", "z", of("f", 9, "B", "z", "b", "x", "d", "y"))
	puts(t, l, long("e", 16), long("v", 32), of("f", 9, "b", "x", "d", "y", long("e", 16), long("v", 32)))
	puts(t, of("", 1024, "\x7f", ""), "\x80", "z", of("", 1024, "\x7f", "", "\x80", "z"))
	puts(t, of("", 1024, "\x80", ""), "\x7f", "z", of("", 1024, "\x7f", "z", "\x80", ""))
}

// P10.2: Put, ErrArg: of leaves that may not be, of what is no key or no value, and of keys that are not below High.
func TestPutWrong(t *testing.T) {
	l := of("f", 9, "b", "x", "d", "y")
	for _, key := range []string{"f", "f\x00", "ff", "g", "\xff", long("f", 16), "", long("a", 17), long("a", 300)} {
		putsNot(t, l, key, "z", api.ErrArg)
	}
	for _, key := range []string{"a", "b", "d", "e", "f", ""} {
		putsNot(t, l, key, long("v", 33), api.ErrArg)
		putsNot(t, l, key, long("v", 300), api.ErrArg)
	}
	putsNot(t, leaf.Leaf{}, "", "", api.ErrArg)
	putsNot(t, leaf.Leaf{}, long("a", 17), "", api.ErrArg)
	putsNot(t, of("b", 0), "b", "", api.ErrArg)
	puts(t, of("b", 0), "a", "", of("b", 0, "a", ""))
	puts(t, of("b\x00", 0), "b", "", of("b\x00", 0, "b", ""))
	puts(t, of(long("b", 16), 0), long("b", 15), "", of(long("b", 16), 0, long("b", 15), ""))
	for _, l := range wrong() {
		putsNot(t, l, "a", "", api.ErrArg)
		putsNot(t, l, "b", "x", api.ErrArg)
		putsNot(t, l, "", "", api.ErrArg)
	}
	// Ahead of ErrFull.
	full := sized(50, 50, 50, 50, 31)
	full.High = "F"
	putsNot(t, full, "F", "", api.ErrArg)
	putsNot(t, full, "", "", api.ErrArg)
	putsNot(t, full, "A", long("v", 33), api.ErrArg)
	putsNot(t, full, "AA", long("v", 33), api.ErrArg)
}

// P10.2: Put, ErrFull: up to 231 bytes of pairs there is room, whatever High is.
func TestPutFull(t *testing.T) {
	for _, high := range []string{"", "Z", long("Z", 16)} {
		for n := 0; n <= 32; n++ {
			value := strings.Repeat("x", n)
			l := sized(50, 50, 50, 50)
			l.High = high
			inside, behind := l, l
			inside.Pairs = slices.Insert(slices.Clone(l.Pairs), 2, pair("Bz", value))
			behind.Pairs = append(slices.Clone(l.Pairs), pair("E", value))
			if 200+4+n <= 231 {
				puts(t, l, "Bz", value, inside)
			} else {
				putsNot(t, l, "Bz", value, api.ErrFull)
			}
			if 200+3+n <= 231 {
				puts(t, l, "E", value, behind)
			} else {
				putsNot(t, l, "E", value, api.ErrFull)
			}
		}
	}
	full := sized(50, 50, 50, 50, 31)
	for _, high := range []string{"", "F", long("F", 16)} {
		full.High = high
		for _, key := range []string{"0", "B", "Dz", "Ez", long("Ez", 16)} {
			putsNot(t, full, key, "", api.ErrFull)
			putsNot(t, full, key, long("v", 32), api.ErrFull)
		}
		for i, p := range full.Pairs { // a value of the same length, or of a smaller one, has room; a longer one has not
			for n := 0; n <= 32; n++ {
				value := strings.Repeat("n", n)
				want := full
				want.Pairs = slices.Clone(full.Pairs)
				want.Pairs[i].Value = value
				if n <= len(p.Value) {
					puts(t, full, p.Key, value, want)
				} else {
					putsNot(t, full, p.Key, value, api.ErrFull)
				}
			}
		}
	}
}

// P10.2: Del.
func TestDel(t *testing.T) {
	l := of("f", 9, "b", "x", "c", "", "d", "y")
	dels(t, l, "b", of("f", 9, "c", "", "d", "y"))
	dels(t, l, "c", of("f", 9, "b", "x", "d", "y"))
	dels(t, l, "d", of("f", 9, "b", "x", "c", ""))
	dels(t, of("f", 9, "b", "x"), "b", of("f", 9)) // High and Next stay
	dels(t, of("", 0, "b", "x"), "b", leaf.Leaf{})
	dels(t, of("", 1024, long("k", 16), ""), long("k", 16), of("", 1024))
	for _, key := range []string{"", "a", "B", "b\x00", "bb", "e", "f", "g", "x", long("b", 17), long("b", 300)} {
		delsNot(t, l, key, api.ErrNone)
		delsNot(t, leaf.Leaf{}, key, api.ErrNone)
		delsNot(t, of("f", 9), key, api.ErrNone)
	}
	for _, l := range wrong() {
		for _, key := range []string{"", "a", "b", "no", long("k", 17)} {
			delsNot(t, l, key, api.ErrArg)
		}
	}
}

// P10.3: Split, of pairs of such sizes: how many the first one has.
func TestSplit(t *testing.T) {
	for i, x := range []struct {
		sizes []int
		want  int
	}{
		{[]int{3, 3}, 1}, {[]int{3, 4}, 1}, {[]int{4, 3}, 1}, {[]int{3, 50}, 1}, {[]int{50, 3}, 1},
		{[]int{3, 3, 3}, 2}, {[]int{3, 3, 3, 3}, 2}, {[]int{3, 3, 3, 3, 3}, 3},
		{[]int{10, 5, 5}, 1},       // half is enough
		{[]int{9, 5, 5}, 2},        // one byte less is not
		{[]int{5, 5, 10}, 2},       // half, with two
		{[]int{5, 5, 11}, 2},       // all but one at most, though that is less than half
		{[]int{3, 3, 50}, 2},       // likewise
		{[]int{3, 3, 3, 3, 50}, 4}, // likewise
		{[]int{50, 3, 3, 3}, 1}, {[]int{20, 20, 3, 50}, 3}, {[]int{20, 24, 3, 41}, 2}, {[]int{20, 23, 3, 41}, 3},
		{[]int{38, 38, 38, 38, 38, 38}, 3}, {[]int{38, 38, 38, 39, 38, 38}, 4}, {[]int{50, 50, 50, 50, 31}, 3}, {[]int{50, 50, 15, 50, 50}, 3},
		{[]int{37, 37, 37, 37, 37, 37}, 3}, {[]int{36, 37, 37, 37, 37, 37}, 4}, {[]int{50, 31, 50, 50, 50}, 3},
	} {
		l := sized(x.sizes...)
		l.High, l.Next = "Z", 7
		a, b, e := leaf.Split(l, i)
		if e != api.OK || len(a.Pairs) != x.want {
			t.Errorf("%v: the first one has %d pairs, %d; want %d", x.sizes, len(a.Pairs), e, x.want)
			continue
		}
		if !leaf.Same(a, leaf.Leaf{Pairs: l.Pairs[:x.want], High: l.Pairs[x.want].Key, Next: i + 1}) {
			t.Errorf("%v: the first one is %+v", x.sizes, a)
		}
		if !leaf.Same(b, leaf.Leaf{Pairs: l.Pairs[x.want:], High: "Z", Next: 7}) {
			t.Errorf("%v: the second one is %+v", x.sizes, b)
		}
		if !leaf.Right(a) || !leaf.Right(b) {
			t.Errorf("%v: %+v, %+v may not be", x.sizes, a, b)
		}
	}
}

// P10.3: Split, of the number of bytes, not of that of pairs; keys count, and values.
func TestSplitBytes(t *testing.T) {
	for i, x := range []struct {
		l    leaf.Leaf
		want int
	}{
		{of("", 0, long("a", 16), "", "b", "", "c", ""), 1},
		{of("", 0, "a", long("v", 32), "b", "", "c", ""), 1},
		{of("", 0, "a", "", "b", "", long("c", 16), ""), 2},
		{of("", 0, "a", "", "b", "", "c", long("v", 32), "d", ""), 3},
		{of("", 0, "a", "xxx", "b", "", "c", ""), 1}, // 6 of 12
		{of("", 0, "a", "xx", "b", "", "c", ""), 2},  // 5 of 11
	} {
		if a, b, e := leaf.Split(x.l, 0); e != api.OK || len(a.Pairs) != x.want || len(b.Pairs) != len(x.l.Pairs)-x.want {
			t.Errorf("%d: %+v, %+v, %d", i, a, b, e)
		}
	}
}

// P10.3: Split, ErrArg.
func TestSplitWrong(t *testing.T) {
	not := func(l leaf.Leaf, page int) {
		t.Helper()
		was := slices.Clone(l.Pairs)
		if a, b, e := leaf.Split(l, page); !bare(a) || !bare(b) || e != api.ErrArg {
			t.Errorf("Split(%+v, %d) = %+v, %+v, %d; want ErrArg", l, page, a, b, e)
		}
		if !slices.Equal(l.Pairs, was) {
			t.Errorf("Split(%+v, %d) has changed its leaf", l, page)
		}
	}
	two := of("c", 5, "a", "x", "b", "y")
	for _, page := range []int{-1, 1024, 1025, math.MaxInt, math.MinInt, 1 << 32} {
		not(two, page)
		not(leaf.Leaf{}, page)
	}
	for _, page := range []int{0, 1, 4, 512, 1022, 1023} { // also the one that Next tells
		if a, b, e := leaf.Split(two, page); !leaf.Same(a, of("b", page+1, "a", "x")) || !leaf.Same(b, of("c", 5, "b", "y")) || e != api.OK {
			t.Errorf("page %d: %+v, %+v, %d", page, a, b, e)
		}
		not(leaf.Leaf{}, page)
		not(of("c", 5), page)
		not(of("", 0, "a", "x"), page)
		not(of("c", 5, "a", long("v", 32)), page)
		for _, l := range wrong() {
			not(l, page)
		}
	}
}

func joins(t *testing.T, a, b, want leaf.Leaf) {
	t.Helper()
	one, other := slices.Clone(a.Pairs), slices.Clone(b.Pairs)
	got, e := leaf.Join(a, b)
	if !leaf.Same(got, want) || e != api.OK {
		t.Errorf("Join(%+v, %+v) = %+v, %d; want %+v", a, b, got, e, want)
	}
	if !leaf.Right(got) {
		t.Errorf("Join(%+v, %+v) = %+v, that may not be", a, b, got)
	}
	if !slices.Equal(a.Pairs, one) || !slices.Equal(b.Pairs, other) {
		t.Errorf("Join(%+v, %+v) has changed its leaves", a, b)
	}
}

func joinsNot(t *testing.T, a, b leaf.Leaf, want api.Errno) {
	t.Helper()
	one, other := slices.Clone(a.Pairs), slices.Clone(b.Pairs)
	if got, e := leaf.Join(a, b); !bare(got) || e != want {
		t.Errorf("Join(%+v, %+v) = %+v, %d; want error %d", a, b, got, e, want)
	}
	if !slices.Equal(a.Pairs, one) || !slices.Equal(b.Pairs, other) {
		t.Errorf("Join(%+v, %+v) has changed its leaves", a, b)
	}
}

// P10.3: Join. Where a's Next leads is not asked, nor whether something stands between a's High and b's first key.
func TestJoin(t *testing.T) {
	joins(t, of("c", 5, "a", "x"), of("f", 9, "d", "y"), of("f", 9, "a", "x", "d", "y"))
	joins(t, of("c", 5, "a", "x"), of("f", 9, "c", "y"), of("f", 9, "a", "x", "c", "y"))
	joins(t, of("c", 0, "a", "x", "b", ""), of("", 0, "c", "y", "e", ""), of("", 0, "a", "x", "b", "", "c", "y", "e", ""))
	joins(t, of("c", 5), of("f", 9, "d", "y"), of("f", 9, "d", "y"))
	joins(t, of("c", 5, "a", "x"), of("f", 9), of("f", 9, "a", "x"))
	joins(t, of("c", 5, "a", "x"), of("c", 9), of("c", 9, "a", "x")) // b's High is not below a's
	joins(t, of("c", 5), of("c", 1024), of("c", 1024))
	joins(t, of("c", 5), of("", 0), of("", 0))
	joins(t, of("c", 5, "a", "x"), of("", 0), of("", 0, "a", "x"))
	joins(t, of("b\x00", 5, "b", "x"), of("b\x01", 0, "b\x00", "y"), of("b\x01", 0, "b", "x", "b\x00", "y"))
	joins(t, of("\x80", 5, "\x7f", ""), of("", 0, "\xff", ""), of("", 0, "\x7f", "", "\xff", ""))
}

// P10.3: Join, ErrArg.
func TestJoinWrong(t *testing.T) {
	a, b := of("c", 5, "a", "x"), of("f", 9, "d", "y")
	joinsNot(t, b, a, api.ErrArg)
	joinsNot(t, a, a, api.ErrArg)
	joinsNot(t, of("", 5, "a", "x"), b, api.ErrArg) // no High
	joinsNot(t, of("", 0), of("", 0), api.ErrArg)
	joinsNot(t, of("", 0), b, api.ErrArg)
	joinsNot(t, a, of("", 9, "b", "y"), api.ErrArg) // keys below High, though above all of a's
	joinsNot(t, a, of("", 9, "b", "y", "d", "y"), api.ErrArg)
	joinsNot(t, a, of("f", 9, "a", "y"), api.ErrArg)
	joinsNot(t, of("c\x00", 5), of("", 0, "c", ""), api.ErrArg)
	joinsNot(t, of("\x80", 5), of("", 0, "\x7f", ""), api.ErrArg)
	joinsNot(t, a, of("b", 9), api.ErrArg) // High below High
	joinsNot(t, of("c\x00", 5, "a", "x"), of("c", 9), api.ErrArg)
	joinsNot(t, of("\x80", 5), of("\x7f", 9), api.ErrArg)
	for _, l := range wrong() {
		joinsNot(t, l, b, api.ErrArg)
		joinsNot(t, l, of("\xff", 0), api.ErrArg)
		joinsNot(t, a, l, api.ErrArg)
		joinsNot(t, of("\x00", 0), l, api.ErrArg)
	}
	// Ahead of ErrFull.
	full := sized(50, 50, 50, 50, 31)
	joinsNot(t, full, full, api.ErrArg)
	full.High = "F"
	joinsNot(t, full, full, api.ErrArg)
}

// P10.3: Join, ErrFull: up to 231 bytes of pairs there is room, whatever b's High is.
func TestJoinFull(t *testing.T) {
	for _, high := range []string{"", "z", long("z", 16)} {
		for n := 0; n <= 32; n++ {
			a := sized(50, 50, 50)
			a.High, a.Next = "D", 4
			b := of(high, 1, "D", long("v", 32), "E", strings.Repeat("w", n)) // 35, 3 and n
			want := of(high, 1)
			want.Pairs = append(append(want.Pairs, a.Pairs...), b.Pairs...)
			joins(t, a, b, want)
			a.Pairs[0].Key, a.Pairs[1].Key = long("A", 16), long("B", 16)
			b.Pairs[0].Key = long("D", 16) // 15 more
			want.Pairs = append(append([]api.Pair{}, a.Pairs...), b.Pairs...)
			if 150+50+3+n <= 231 {
				joins(t, a, b, want)
			} else {
				joinsNot(t, a, b, api.ErrFull)
			}
		}
	}
	full, one := sized(50, 50, 50, 50, 31), of("", 0, "F", "")
	full.High = "F"
	joinsNot(t, full, one, api.ErrFull)
	joins(t, full, of("", 0), sized(50, 50, 50, 50, 31))
	full.Pairs, full.High = full.Pairs[1:], "Eza"
	joins(t, of("A", 3), full, full)
	joins(t, of("A", 3, "0", long("v", 32)), full, of("Eza", 0, append([]string{"0", long("v", 32)}, texts(full)...)...))
}

func texts(l leaf.Leaf) []string {
	var all []string
	for _, p := range l.Pairs {
		all = append(all, p.Key, p.Value)
	}
	return all
}

// held is a leaf whose texts, and whose list, stand in memory of the test's own, with room behind the list.
type held struct {
	l     leaf.Leaf
	bytes [][]byte
	room  []api.Pair
}

func hold(l leaf.Leaf) *held {
	h := &held{l: l}
	h.room = make([]api.Pair, len(l.Pairs)+3)
	for i, p := range l.Pairs {
		h.room[i] = pair(h.text(p.Key), h.text(p.Value))
	}
	for i := len(l.Pairs); i < len(h.room); i++ {
		h.room[i] = pair("behind", "it")
	}
	h.l.Pairs = h.room[:len(l.Pairs)]
	h.l.High = h.text(l.High)
	return h
}

// text is one whose bytes can be changed later.
func (h *held) text(s string) string {
	b := append([]byte(s), '!')
	h.bytes = append(h.bytes, b)
	return unsafe.String(unsafe.SliceData(b), len(s))
}

// unchanged tells whether what was handed in is what it was, the room behind it too; then it spoils all of it.
func (h *held) unchanged(t *testing.T, was leaf.Leaf) {
	t.Helper()
	if !leaf.Same(h.l, was) {
		t.Errorf("%+v was changed into %+v", was, h.l)
	}
	for _, p := range h.room[len(was.Pairs):] {
		if p != pair("behind", "it") {
			t.Errorf("the room behind the list was changed: %q", p)
		}
	}
	for _, b := range h.bytes {
		if b[len(b)-1] != '!' {
			t.Errorf("bytes behind a text were changed: %q", b)
		}
		for i := range b {
			b[i] = '?'
		}
	}
	for i := range h.room {
		h.room[i] = pair("spoiled", "")
	}
}

// R4: what is handed in is neither changed nor kept, nor the room behind it.
func TestNothingIsKept(t *testing.T) {
	was := of("f", 9, "a", "xx", "c", "yy", "e", "zz")
	check := func(want leaf.Leaf, do func(h *held) leaf.Leaf) {
		t.Helper()
		h := hold(was)
		got := do(h)
		h.unchanged(t, was)
		if !leaf.Same(got, want) {
			t.Errorf("%+v, behind the change of what was handed in; want %+v", got, want)
		}
	}
	fine := func(l leaf.Leaf, e api.Errno) leaf.Leaf {
		t.Helper()
		if e != api.OK {
			t.Error(e)
		}
		return l
	}
	for _, x := range []struct {
		key  string
		want leaf.Leaf
	}{
		{"b", of("f", 9, "a", "xx", "b", "new", "c", "yy", "e", "zz")},
		{"c", of("f", 9, "a", "xx", "c", "new", "e", "zz")},
		{"ee", of("f", 9, "a", "xx", "c", "yy", "e", "zz", "ee", "new")},
	} {
		check(x.want, func(h *held) leaf.Leaf { return fine(leaf.Put(h.l, h.text(x.key), h.text("new"))) })
	}
	check(of("f", 9, "a", "xx", "e", "zz"), func(h *held) leaf.Leaf { return fine(leaf.Del(h.l, h.text("c"))) })
	check(of("f", 9, "a", "xx", "c", "yy"), func(h *held) leaf.Leaf { return fine(leaf.Del(h.l, h.text("e"))) })
	check(of("e", 4, "a", "xx", "c", "yy"), func(h *held) leaf.Leaf { a, _, e := leaf.Split(h.l, 3); return fine(a, e) })
	check(of("f", 9, "e", "zz"), func(h *held) leaf.Leaf { _, b, e := leaf.Split(h.l, 3); return fine(b, e) })
	check(of("h", 2, "a", "xx", "c", "yy", "e", "zz", "g", "ww"), func(h *held) leaf.Leaf {
		other := hold(of("h", 2, "g", "ww"))
		got := fine(leaf.Join(h.l, other.l))
		other.unchanged(t, of("h", 2, "g", "ww"))
		return got
	})
	check(was, func(h *held) leaf.Leaf { return fine(leaf.Decode(h.text(leaf.Encode(h.l)))) })
	h := hold(was)
	s := leaf.Encode(h.l)
	v, e := leaf.Get(h.l, h.text("c"))
	if !leaf.Right(h.l) || leaf.Size(h.l) != 21 {
		t.Error(leaf.Size(h.l))
	}
	h.unchanged(t, was)
	if s != leaf.Encode(was) || v != "yy" || e != api.OK {
		t.Errorf("%q, %q, %d", s, v, e)
	}
}

// R4: what is answered is new memory, and no two lists of one answer share any.
func TestAnswersAreNew(t *testing.T) {
	l := of("f", 9, "a", "xx", "c", "yy", "e", "zz")
	a, b, e := leaf.Split(l, 3)
	if e != api.OK {
		t.Fatal(e)
	}
	spoil := func(l leaf.Leaf) {
		for i := range l.Pairs[:cap(l.Pairs)] {
			l.Pairs[:cap(l.Pairs)][i] = pair("spoiled", "")
		}
	}
	high, key := unsafe.StringData(a.High), unsafe.StringData(b.Pairs[0].Key)
	if high == key {
		t.Error("both halves share a text")
	}
	spoil(a)
	if !leaf.Same(b, of("f", 9, "e", "zz")) {
		t.Errorf("the second half shares memory with the first one: %+v", b)
	}
	a, b, _ = leaf.Split(l, 3)
	spoil(b)
	if !leaf.Same(a, of("e", 4, "a", "xx", "c", "yy")) {
		t.Errorf("the first half shares memory with the second one: %+v", a)
	}
	for i, do := range []func() (leaf.Leaf, api.Errno){
		func() (leaf.Leaf, api.Errno) { return leaf.Decode("L\x02\x00\x00\x01z\x01a\x01x\x01b\x01y") },
		func() (leaf.Leaf, api.Errno) { return leaf.Put(l, "b", "z") },
		func() (leaf.Leaf, api.Errno) { return leaf.Put(l, "c", "yy") },
		func() (leaf.Leaf, api.Errno) { return leaf.Del(l, "c") },
		func() (leaf.Leaf, api.Errno) { return leaf.Join(l, of("", 0)) },
		func() (leaf.Leaf, api.Errno) { return leaf.Join(of("a", 0), l) },
	} {
		one, e := do()
		was := one
		was.Pairs = slices.Clone(one.Pairs)
		other, f := do()
		spoil(one)
		if e != api.OK || f != api.OK || !leaf.Same(other, was) || !leaf.Same(l, of("f", 9, "a", "xx", "c", "yy", "e", "zz")) {
			t.Errorf("%d: %+v, %d, %d; %+v", i, other, e, f, l)
		}
		if again, _ := do(); !leaf.Same(again, was) { // R5
			t.Errorf("%d: first %+v, then %+v", i, was, again)
		}
	}
}

// R1: lists and texts that are very long end soon.
func TestVeryLong(t *testing.T) {
	pairs := make([]api.Pair, 1<<20)
	for i := range pairs {
		pairs[i] = pair(string([]byte{byte(i >> 16), byte(i >> 8), byte(i)}), "x")
	}
	text := strings.Repeat("t", 1<<24)
	for i, l := range []leaf.Leaf{{Pairs: pairs}, {High: text}, {Pairs: []api.Pair{pair(text, "")}}, {Pairs: []api.Pair{pair("a", text)}}} {
		if leaf.Right(l) || leaf.Encode(l) != "" || leaf.Size(l) < 1<<20 {
			t.Errorf("%d: may not be", i)
		}
		if _, e := leaf.Get(l, text); e != api.ErrArg {
			t.Errorf("%d: Get: %d", i, e)
		}
		if m, e := leaf.Put(l, text, text); !bare(m) || e != api.ErrArg {
			t.Errorf("%d: Put: %d", i, e)
		}
		if m, e := leaf.Join(l, l); !bare(m) || e != api.ErrArg {
			t.Errorf("%d: Join: %d", i, e)
		}
	}
	noLeaf(t, "L"+strings.Repeat("\x00", 1<<24))
	if _, e := leaf.Get(of("", 0, "a", "x"), text); e != api.ErrNone {
		t.Error(e)
	}
}

// The chapter's example.
func TestExamples(t *testing.T) {
	l, e := leaf.Put(leaf.Leaf{}, "b", "x")
	if s := leaf.Encode(l); s != "L\x01\x00\x00\x00\x01b\x01x" || e != api.OK {
		t.Errorf("%q, %d", s, e)
	}
}
