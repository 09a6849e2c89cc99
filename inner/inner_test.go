package inner_test

import (
	"fmt"
	"math"
	"slices"
	"strings"
	"testing"
	"unsafe"

	"budwood/api"
	"budwood/inner"
)

func kids(all ...int) []int { return all }

// of is a page of kids, and of the separators between them.
func of(high string, next int, kids []int, seps ...string) inner.Inner {
	return inner.Inner{Seps: seps, Kids: kids, High: high, Next: next}
}

// sized is a page whose separators have such sizes (3 and the length, each): they begin with 'A' and what is behind it.
func sized(sizes ...int) inner.Inner {
	n := inner.Inner{Kids: []int{500}}
	for i, size := range sizes {
		n.Seps = append(n.Seps, long(string(rune('A'+i)), size-3))
		n.Kids = append(n.Kids, 1023-i)
	}
	return n
}

// full is a page with the most bytes of separators that one may have, 229; fuller has one more.
func full() inner.Inner {
	return sized(19, 19, 19, 19, 19, 19, 19, 19, 19, 19, 19, 16, 4)
}

func fuller() inner.Inner {
	return sized(19, 19, 19, 19, 19, 19, 19, 19, 19, 19, 19, 17, 4)
}

// short is a page with so many separators of one byte.
func short(count int) inner.Inner {
	n := inner.Inner{Kids: []int{0}}
	for i := range count {
		n.Seps = append(n.Seps, string([]byte{byte(i)}))
		n.Kids = append(n.Kids, i+1)
	}
	return n
}

// long is a text of so many bytes, that begins with another one.
func long(t string, n int) string { return t + strings.Repeat("z", n-len(t)) }

func bare(n inner.Inner) bool {
	return len(n.Seps) == 0 && len(n.Kids) == 0 && n.High == "" && n.Next == 0
}

// clone is a page with lists of its own.
func clone(n inner.Inner) inner.Inner {
	n.Seps, n.Kids = slices.Clone(n.Seps), slices.Clone(n.Kids)
	return n
}

// edges are pages that may be, ordinary ones and such as stand at the edge of what may be.
func edges() []inner.Inner {
	high := full()
	high.High, high.Next = long("N", 16), 1024
	other := short(57)
	other.High = "\x39"
	return []inner.Inner{
		of("", 0, kids(0)), of("", 0, kids(1)), of("", 0, kids(255)), of("", 0, kids(256)), of("", 0, kids(1023)), of("", 0, kids(0x2fe)),
		of("", 1, kids(5)), of("", 255, kids(5)), of("", 256, kids(5)), of("", 769, kids(5)), of("", 1024, kids(1023)),
		of("a", 0, kids(0)), of("\x00", 0, kids(7)), of("\xff", 5, kids(1)), of(long("h", 16), 1024, kids(1023)),
		of("", 0, kids(3, 4), "m"), of("", 0, kids(4, 3), "\x00"), of("", 0, kids(0, 0), "a"), of("n", 0, kids(5, 5), "m"),
		of("", 0, kids(1, 2), long("k", 16)), of("l", 3, kids(1, 2), long("k", 16)), of(long("l", 16), 3, kids(1, 2), long("k", 16)),
		of("f", 9, kids(1, 2, 3), "b", "d"), of("", 0, kids(1, 1, 1, 1), "b", "c", "d"),
		of("", 0, kids(9, 8, 7, 6, 5, 4), "a", "a\x00", "a\x00\x00", "aa", "b"),
		of("\xff\xff", 0, kids(1, 2, 3, 4, 5, 6, 7), "\x00", "Z", "a", "\x7f", "\x80", "\xff"),
		of("ab", 7, kids(0, 1023, 0), "a", "aa"), of("aa\x00", 7, kids(1023, 0, 1023), "a", "aa"),
		short(57), other, full(), high, sized(4), sized(4, 4), sized(19, 4, 19), sized(19, 19, 19, 19, 19, 19, 19, 19, 19, 19, 19, 19),
	}
}

// wrong are pages that may not be.
func wrong() []inner.Inner {
	high := fuller()
	high.High = "N"
	all := []inner.Inner{
		{}, of("a", 0, nil), of("", 3, nil), of("", 0, kids()), // no kid
		of("", 0, nil, "a"), of("", 0, nil, "a", "b"), of("", 0, kids(1), "a"), of("", 0, kids(1, 2), "a", "b"), // too few, or too many
		of("", 0, kids(1, 2)), of("", 0, kids(1, 2, 3), "a"), of("", 0, kids(1, 2, 3)), of("", 0, kids(1, 2, 3, 4), "a", "b"),
		of("", 0, kids(1, 2), ""), of("", 0, kids(1, 2, 3), "", "a"), of("", 0, kids(1, 2, 3), "a", ""), // no key
		of("", 0, kids(1, 2), long("k", 17)), of("", 0, kids(1, 2, 3), "a", long("k", 17)), of("", 0, kids(1, 2), long("k", 200)), of("", 0, kids(1, 2), long("k", 300)),
		of("", 0, kids(1, 2, 3), "b", "a"), of("", 0, kids(1, 2, 3), "a", "a"), of("", 0, kids(1, 2, 3, 4), "a", "c", "b"), // not rising
		of("", 0, kids(1, 2, 3), "aa", "a"), of("", 0, kids(1, 2, 3), "a\x00", "a"), of("", 0, kids(1, 2, 3), "a", "B"), of("", 0, kids(1, 2, 3), "\x80", "\x7f"),
		of(long("h", 17), 0, kids(1)), of(long("h", 300), 0, kids(1)), of(long("h", 17), 0, kids(1, 2), "a"), // High is no key
		of("b", 0, kids(1, 2), "b"), of("a", 0, kids(1, 2), "b"), of("b", 0, kids(1, 2, 3), "a", "b"), of("ba", 0, kids(1, 2, 3), "a", "bb"), // nor above all separators
		of("\x7f", 0, kids(1, 2), "\x80"), of("a", 0, kids(1, 2), "a\x00"), of("b", 0, kids(1, 2, 3), "a", "c"),
		fuller(), high, short(58), short(256), short(257), sized(19, 19, 19, 19, 19, 19, 19, 19, 19, 19, 19, 19, 4), // too large
	}
	for _, kid := range notPages() {
		all = append(all, of("", 0, kids(kid)), of("", 0, kids(kid, 1), "a"), of("", 0, kids(1, kid), "a"), of("", 0, kids(1, kid, 2), "a", "b"), of("c", 0, kids(1, 2, kid), "a", "b"))
	}
	for _, next := range []int{-1, 1025, 1 << 16, 1<<16 + 1, 1 << 32, math.MaxInt, math.MinInt} {
		all = append(all, of("", next, kids(1)), of("b", next, kids(1, 2), "a"))
	}
	return all
}

func notPages() []int {
	return []int{-1, 1024, 1025, 1 << 16, 1<<16 + 1, 1 << 32, -1 << 32, math.MaxInt, math.MinInt}
}

// P11.1: Right, of pages at the edges.
func TestRight(t *testing.T) {
	for i, n := range edges() {
		if !inner.Right(n) {
			t.Errorf("%d: %+v may be", i, n)
		}
	}
	for i, n := range wrong() {
		if inner.Right(n) {
			t.Errorf("%d: %+v may not be", i, n)
		}
	}
}

// P11.1: whether a page is too large does not hang on the High that it has: its size may go up to 236, without one.
func TestRightRoom(t *testing.T) {
	for size := 4; size <= 19; size++ {
		n := sized(19, 19, 19, 19, 19, 19, 19, 19, 19, 19, 19, 4, size)
		want := 213+size <= 229
		for _, high := range []string{"", "N", long("N", 15), long("N", 16)} {
			n.High = high
			if got := inner.Right(n); got != want {
				t.Errorf("%d bytes of separators, High %q: %v", 213+size, high, got)
			}
			if got := inner.Size(n); got != 220+size+len(high) {
				t.Errorf("%d bytes of separators, High %q: size %d", 213+size, high, got)
			}
		}
	}
}

// P11.1: Size, of pages that may be and of others: kids are not asked.
func TestSize(t *testing.T) {
	for i, x := range []struct {
		n    inner.Inner
		want int
	}{
		{of("", 0, kids(1)), 7}, {of("", 1024, kids(1)), 7}, {of("a", 0, kids(1)), 8}, {of(long("h", 16), 3, kids(1)), 23},
		{of("", 0, kids(1, 2), "a"), 11}, {of("cd", 9, kids(1, 2, 3), "a", "bbb"), 7 + 2 + 4 + 6},
		{inner.Inner{}, 7}, {of("abc", 0, nil), 10}, {of("", 0, nil, "a"), 11}, {of("", 0, kids(1, 2, 3)), 7}, {of("", 0, kids(1, 2, 3, 4), "a"), 11},
		{of("", 0, kids(1), "", ""), 13}, {of("", -1, kids(-1, 5000, 7), "b", "a"), 15}, {of(long("h", 1000), 5000, kids(1)), 1007},
		{of("", 0, kids(1, 2), long("k", 1000)), 1010}, {full(), 236}, {fuller(), 237}, {short(57), 235}, {short(300), 1207},
	} {
		if got := inner.Size(x.n); got != x.want {
			t.Errorf("%d: %d; want %d", i, got, x.want)
		}
	}
}

// P11.1: Encode, by hand.
func TestEncode(t *testing.T) {
	for i, x := range []struct {
		n    inner.Inner
		want string
	}{
		{of("", 0, kids(0)), "N\x00\x00\x00\x00\x00\x00"},
		{of("", 0, kids(1)), "N\x00\x00\x00\x00\x01\x00"}, {of("", 0, kids(1023)), "N\x00\x00\x00\x00\xff\x03"}, {of("", 0, kids(0x102)), "N\x00\x00\x00\x00\x02\x01"},
		{of("", 1, kids(0)), "N\x00\x01\x00\x00\x00\x00"}, {of("", 1024, kids(0)), "N\x00\x00\x04\x00\x00\x00"}, {of("", 0x2fe, kids(0)), "N\x00\xfe\x02\x00\x00\x00"},
		{of("hi", 0, kids(5)), "N\x00\x00\x00\x02hi\x05\x00"}, {of("\x00", 0, kids(0)), "N\x00\x00\x00\x01\x00\x00\x00"},
		{of("", 0, kids(3, 4), "m"), "N\x01\x00\x00\x00\x03\x00\x01m\x04\x00"},
		{of("", 0, kids(0, 0), "\x00"), "N\x01\x00\x00\x00\x00\x00\x01\x00\x00\x00"}, // the bytes 0 at its end are its own
		{of("d", 0x301, kids(0x201, 0x302, 7), "a", "bc"), "N\x02\x01\x03\x01d\x01\x02\x01a\x02\x03\x02bc\x07\x00"},
		{of("", 2, kids(6, 5), long("k", 16)), "N\x01\x02\x00\x00\x06\x00\x10k" + strings.Repeat("z", 15) + "\x05\x00"},
	} {
		if got := inner.Encode(x.n); got != x.want {
			t.Errorf("%d: %q; want %q", i, got, x.want)
		}
	}
	for i, n := range wrong() {
		if got := inner.Encode(n); got != "" {
			t.Errorf("%d: %+v may not be, but is encoded as %q", i, n, got)
		}
	}
}

// P11.1: what is encoded is decoded, with as many bytes 0 behind it as a page has room for, and is as long as Size tells.
func TestDecode(t *testing.T) {
	for i, n := range edges() {
		s := inner.Encode(n)
		if len(s) != inner.Size(n) || len(s) == 0 {
			t.Errorf("%d: %d bytes; want %d", i, len(s), inner.Size(n))
		}
		for size := len(s); size <= 252; size++ {
			if got, e := inner.Decode(s + strings.Repeat("\x00", size-len(s))); !inner.Same(got, n) || e != api.OK {
				t.Errorf("%d, in %d bytes: %+v, %d; want %+v", i, size, got, e, n)
			}
		}
		noPage(t, s+strings.Repeat("\x00", 253-len(s)))
		noPage(t, s+strings.Repeat("\x00", 256-len(s)))
		for size := range len(s) {
			noPage(t, s[:size])
		}
		for size := len(s); size < 252; size++ {
			noPage(t, s+strings.Repeat("\x00", size-len(s))+"\x01")
		}
		if len(s) < 250 {
			noPage(t, s+"\x00\xff\x00")
		}
	}
}

func noPage(t *testing.T, s string) {
	t.Helper()
	if n, e := inner.Decode(s); !bare(n) || e != api.ErrForm {
		t.Errorf("%q: %+v, %d; want none, ErrForm", s, n, e)
	}
}

// P11.1: bytes that are no inner page's.
func TestDecodeWrong(t *testing.T) {
	for _, s := range []string{
		"", "N", "N\x00", "N\x00\x00", "N\x00\x00\x00", "N\x00\x00\x00\x00", "N\x00\x00\x00\x00\x00", "\x00", strings.Repeat("\x00", 252), strings.Repeat("N", 252),
		"M\x00\x00\x00\x00\x00\x00", "n\x00\x00\x00\x00\x00\x00", "L\x00\x00\x00\x00\x00\x00", "\x00\x00\x00\x00\x00\x00\x00", "\x00N\x00\x00\x00\x00\x00\x00",
		"N\x00\x01\x04\x00\x00\x00", "N\x00\x00\x05\x00\x00\x00", "N\x00\xff\xff\x00\x00\x00", "N\x00\x00\x80\x00\x00\x00", // Next
		"N\x00\x00\x00\x00\x00\x04", "N\x00\x00\x00\x00\x01\x04", "N\x00\x00\x00\x00\xff\xff", "N\x00\x00\x00\x00\x00\x80", // the first kid
		"N\x01\x00\x00\x00\x00\x00\x01m\x00\x04", "N\x01\x00\x00\x00\x00\x00\x01m\xff\xff", "N\x02\x00\x00\x00\x00\x00\x01m\x00\x04\x01n\x00\x00", // another one
		"N\x00\x00\x00\x01", "N\x00\x00\x00\x01h", "N\x00\x00\x00\x01h\x00", "N\x00\x00\x00\x03hi", "N\x00\x00\x00\x03hi\x00\x00", // High
		"N\x00\x00\x00\x11" + long("h", 17) + "\x00\x00", "N\x00\x00\x00\xff" + long("h", 240),
		"N\x01\x00\x00\x00\x00\x00", "N\x01\x00\x00\x00\x00\x00\x01", "N\x01\x00\x00\x00\x00\x00\x01m", "N\x01\x00\x00\x00\x00\x00\x01m\x00", "N\x01\x00\x00\x00\x00\x00\x03m\x00\x00",
		"N\x02\x00\x00\x00\x00\x00\x01m\x00\x00", "N\xff\x00\x00\x00\x00\x00\x01m\x00\x00", "N\x00\x00\x00\x00\x00\x00\x01m\x00\x00", // how many separators
		"N\x01\x00\x00\x00\x00\x00\x00\x00\x00", "N\x01\x00\x00\x00\x00\x00\x00\x05\x00", // no key
		"N\x02\x00\x00\x00\x00\x00\x01m\x00\x00\x00\x00\x00", "N\x02\x00\x00\x00\x00\x00\x01m\x00\x00" + strings.Repeat("\x00", 100),
		"N\x01\x00\x00\x00\x00\x00\x11" + long("k", 17) + "\x00\x00",
		"N\x02\x00\x00\x00\x00\x00\x01b\x00\x00\x01a\x00\x00", "N\x02\x00\x00\x00\x00\x00\x01a\x00\x00\x01a\x00\x00", // not rising
		"N\x01\x00\x00\x01b\x00\x00\x01b\x00\x00", "N\x01\x00\x00\x01a\x00\x00\x01b\x00\x00", // High is not above all separators
		"N\x00\x00\x00\x00\x00\x00x", "N\x00\x00\x00\x00\x00\x00\x00x", "N\x01\x00\x00\x00\x00\x00\x01m\x00\x00x", // what stands behind
		"N\x00\x00\x00\x00\x00\x00N\x00\x00\x00\x00\x00\x00",
	} {
		noPage(t, s)
	}
	// Pages too large to be, though their bytes have room on a page: 230 and 232 of separators, without a High.
	for i, n := range []inner.Inner{fuller(), short(58)} {
		s := bytesOf(n)
		if len(s) != []int{237, 239}[i] {
			t.Fatal(len(s))
		}
		noPage(t, s)
	}
}

// P11.1: Same, of pages that may be and of others.
func TestSame(t *testing.T) {
	all := append(edges(), wrong()...)
	for i, a := range all {
		for j, b := range all {
			want := i == j || fmt.Sprintf("%q %d %q %d", a.Seps, a.Kids, a.High, a.Next) == fmt.Sprintf("%q %d %q %d", b.Seps, b.Kids, b.High, b.Next)
			if got := inner.Same(a, clone(b)); got != want {
				t.Errorf("%+v, %+v: %v", a, b, got)
			}
		}
	}
	n := of("d", 3, kids(7, 8, 9), "a", "b")
	for i, m := range []inner.Inner{
		{}, of("d", 3, kids(7)), of("d", 3, kids(7, 8), "a"), of("d", 3, kids(8, 9), "b"), of("d", 3, kids(7, 8, 9, 9), "a", "b", "c"),
		of("d", 3, kids(7, 8, 9), "a", "c"), of("d", 3, kids(7, 8, 9), "aa", "b"), of("d", 3, kids(7, 8, 9), "b", "a"), of("d", 3, kids(7, 8, 9), "ab", ""),
		of("d", 3, kids(6, 8, 9), "a", "b"), of("d", 3, kids(7, 7, 9), "a", "b"), of("d", 3, kids(7, 8, 0), "a", "b"), of("d", 3, kids(9, 8, 7), "a", "b"),
		of("d", 3, kids(7, 8), "a", "b"), of("d", 3, kids(7, 8, 9), "a"), of("d", 3, nil, "a", "b"), of("d", 3, kids(7, 8, 9)),
		of("", 3, kids(7, 8, 9), "a", "b"), of("dd", 3, kids(7, 8, 9), "a", "b"), of("d", 4, kids(7, 8, 9), "a", "b"), of("d", 0, kids(7, 8, 9), "a", "b"),
	} {
		if inner.Same(n, m) || inner.Same(m, n) {
			t.Errorf("%d: %+v is not the same", i, m)
		}
	}
	if !inner.Same(inner.Inner{}, inner.Inner{Seps: []string{}, Kids: []int{}}) || !inner.Same(of("", 2, kids(1)), inner.Inner{Seps: []string{}, Kids: kids(1), Next: 2}) {
		t.Error("an empty list is a nil one")
	}
	if n := (inner.Inner{Seps: []string{}, Kids: kids(5)}); !inner.Right(n) || inner.Encode(n) != "N\x00\x00\x00\x00\x05\x00" {
		t.Error("an empty list is a nil one")
	}
}

func finds(t *testing.T, n inner.Inner, key string, want int) {
	t.Helper()
	was := clone(n)
	if got, e := inner.Find(n, key); got != want || e != api.OK {
		t.Errorf("Find(%+v, %q) = %d, %d; want %d", n, key, got, e, want)
	}
	unchanged(t, n, was)
}

func findsNot(t *testing.T, n inner.Inner, key string) {
	t.Helper()
	was := clone(n)
	if got, e := inner.Find(n, key); got != 0 || e != api.ErrArg {
		t.Errorf("Find(%+v, %q) = %d, %d; want ErrArg", n, key, got, e)
	}
	unchanged(t, n, was)
}

func unchanged(t *testing.T, n, was inner.Inner) {
	t.Helper()
	if !inner.Same(n, was) {
		t.Errorf("%+v was changed into %+v", was, n)
	}
}

// P11.2: Find.
func TestFind(t *testing.T) {
	n := of("f", 9, kids(1, 2, 3, 4), "b", "d", "da")
	for key, want := range map[string]int{
		"\x00": 0, "a": 0, "B": 0, long("a", 16): 0, "b": 1, "b\x00": 1, "bb": 1, "c": 1, long("c", 16): 1,
		"d": 2, "d\x00": 2, "d`": 2, "d`\xff": 2, "da": 3, "da\x00": 3, "db": 3, "e": 3, long("e", 16): 3,
	} {
		finds(t, n, key, want)
	}
	for _, key := range []string{"", "f", "f\x00", "fa", "g", "\xff", long("a", 17), long("c", 17), long("f", 16), strings.Repeat("a", 1000)} {
		findsNot(t, n, key)
	}
	for _, key := range []string{"\x00", "a", "\xff", long("\xff", 16), long("k", 16)} {
		finds(t, of("", 5, kids(1023)), key, 0)
	}
	finds(t, of("", 0, kids(1, 2), "\x80"), "\x7f\xff", 0) // byte by byte
	finds(t, of("", 0, kids(1, 2), "\x80"), "\x80", 1)
	finds(t, of("", 0, kids(1, 2), "\x80"), "\xff", 1)
	finds(t, of("", 0, kids(1, 2), "\x00"), "\x00", 1)
	finds(t, of("\x01", 0, kids(1, 2), "\x00"), "\x00\xff", 1)
	findsNot(t, of("\x01", 0, kids(1, 2), "\x00"), "\x01")
	findsNot(t, of("\x00", 0, kids(1)), "\x00")
	findsNot(t, of("\x00", 0, kids(1)), "")
	findsNot(t, of("", 0, kids(1)), "")
	findsNot(t, of("", 0, kids(1)), long("k", 17))
	for _, n := range edges() { // each separator, and what is just behind it
		for i, sep := range n.Seps {
			finds(t, n, sep, i+1)
			if next := sep + "\x00"; len(next) <= 16 && (i == len(n.Seps)-1 || n.Seps[i+1] != next) && (n.High == "" || next < n.High) {
				finds(t, n, next, i+1)
			}
		}
	}
	for _, n := range wrong() {
		for _, key := range []string{"", "\x00", "a", "b", long("k", 17)} {
			findsNot(t, n, key)
		}
	}
}

// does and doesNot tell whether a call answers what it should, and changes nothing of the page that it is handed.
func does(t *testing.T, what string, do func(inner.Inner) (inner.Inner, api.Errno), n, want inner.Inner) {
	t.Helper()
	was := clone(n)
	got, e := do(n)
	if !inner.Same(got, want) || e != api.OK {
		t.Errorf("%s of %+v: %+v, %d; want %+v", what, n, got, e, want)
	}
	if !inner.Right(got) {
		t.Errorf("%s of %+v: %+v, that may not be", what, n, got)
	}
	unchanged(t, n, was)
}

func doesNot(t *testing.T, what string, do func(inner.Inner) (inner.Inner, api.Errno), n inner.Inner, want api.Errno) {
	t.Helper()
	was := clone(n)
	if got, e := do(n); !bare(got) || e != want {
		t.Errorf("%s of %+v: %+v, %d; want error %d", what, n, got, e, want)
	}
	unchanged(t, n, was)
}

func put(key string, kid int) (string, func(inner.Inner) (inner.Inner, api.Errno)) {
	return fmt.Sprintf("Put %q, %d", key, kid), func(n inner.Inner) (inner.Inner, api.Errno) { return inner.Put(n, key, kid) }
}

func del(i int) (string, func(inner.Inner) (inner.Inner, api.Errno)) {
	return fmt.Sprintf("Del %d", i), func(n inner.Inner) (inner.Inner, api.Errno) { return inner.Del(n, i) }
}

func turn(i, kid int) (string, func(inner.Inner) (inner.Inner, api.Errno)) {
	return fmt.Sprintf("Turn %d, %d", i, kid), func(n inner.Inner) (inner.Inner, api.Errno) { return inner.Turn(n, i, kid) }
}

func puts(t *testing.T, n inner.Inner, key string, kid int, want inner.Inner) {
	t.Helper()
	what, do := put(key, kid)
	does(t, what, do, n, want)
}

func putsNot(t *testing.T, n inner.Inner, key string, kid int, want api.Errno) {
	t.Helper()
	what, do := put(key, kid)
	doesNot(t, what, do, n, want)
}

func dels(t *testing.T, n inner.Inner, i int, want inner.Inner) {
	t.Helper()
	what, do := del(i)
	does(t, what, do, n, want)
}

func delsNot(t *testing.T, n inner.Inner, i int) {
	t.Helper()
	what, do := del(i)
	doesNot(t, what, do, n, api.ErrArg)
}

func turns(t *testing.T, n inner.Inner, i, kid int, want inner.Inner) {
	t.Helper()
	what, do := turn(i, kid)
	does(t, what, do, n, want)
}

func turnsNot(t *testing.T, n inner.Inner, i, kid int) {
	t.Helper()
	what, do := turn(i, kid)
	doesNot(t, what, do, n, api.ErrArg)
}

// P11.2: Put.
func TestPut(t *testing.T) {
	n := of("f", 9, kids(1, 2, 3), "b", "d")
	puts(t, n, "a", 9, of("f", 9, kids(1, 9, 2, 3), "a", "b", "d"))
	puts(t, n, "c", 9, of("f", 9, kids(1, 2, 9, 3), "b", "c", "d"))
	puts(t, n, "e", 9, of("f", 9, kids(1, 2, 3, 9), "b", "d", "e"))
	puts(t, n, "b\x00", 0, of("f", 9, kids(1, 2, 0, 3), "b", "b\x00", "d"))
	puts(t, n, "\x00", 1023, of("f", 9, kids(1, 1023, 2, 3), "\x00", "b", "d"))
	puts(t, n, long("e", 16), 2, of("f", 9, kids(1, 2, 3, 2), "b", "d", long("e", 16))) // a kid that it has already
	puts(t, of("", 0, kids(3)), "m", 4, of("", 0, kids(3, 4), "m"))
	puts(t, of("", 1024, kids(3)), "\xff", 3, of("", 1024, kids(3, 3), "\xff"))
	puts(t, of("", 0, kids(1, 2), "\x80"), "\x7f", 5, of("", 0, kids(1, 5, 2), "\x7f", "\x80")) // byte by byte
	puts(t, of("\x01", 0, kids(1)), "\x00", 5, of("\x01", 0, kids(1, 5), "\x00"))
	for _, kid := range []int{0, 1, 255, 256, 1022, 1023} {
		puts(t, n, "c", kid, of("f", 9, kids(1, 2, kid, 3), "b", "c", "d"))
	}
}

// P11.2: Put, ErrArg and ErrTwice: ErrArg is named first.
func TestPutWrong(t *testing.T) {
	n := of("f", 9, kids(1, 2, 3), "b", "d")
	for _, key := range []string{"", "f", "f\x00", "g", "\xff", long("a", 17), strings.Repeat("b", 1000)} {
		putsNot(t, n, key, 5, api.ErrArg)
	}
	putsNot(t, of("", 0, kids(1)), "", 5, api.ErrArg)
	putsNot(t, of("", 0, kids(1)), long("k", 17), 5, api.ErrArg)
	for _, key := range []string{"b", "d"} {
		for _, kid := range []int{0, 1, 2, 3, 1023} { // also the kid that is behind it
			putsNot(t, n, key, kid, api.ErrTwice)
		}
	}
	for _, kid := range notPages() {
		for _, key := range []string{"a", "b", "c", "d", "e", "f", ""} {
			putsNot(t, n, key, kid, api.ErrArg)
		}
		putsNot(t, full(), "z", kid, api.ErrArg)
	}
	for _, n := range wrong() {
		for _, key := range []string{"", "\x00", "a", "b", "z", long("k", 17)} {
			for _, kid := range []int{-1, 0, 5, 1024} {
				putsNot(t, n, key, kid, api.ErrArg)
			}
		}
	}
}

// P11.2: Put, ErrFull: up to 229 bytes of separators there is room, whatever High is; behind ErrArg and ErrTwice.
func TestPutFull(t *testing.T) {
	for _, high := range []string{"", "z", long("z", 16)} {
		n := sized(19, 19, 19, 19, 19, 19, 19, 19, 19, 19, 19, 4)
		n.High, n.Next = high, 3
		for size := 1; size <= 16; size++ {
			key := strings.Repeat("0", size)
			want := of(high, 3, append(kids(500, 7), n.Kids[1:]...), append([]string{key}, n.Seps...)...)
			if 213+3+size <= 229 {
				puts(t, n, key, 7, want)
			} else {
				putsNot(t, n, key, 7, api.ErrFull)
			}
		}
		n = full()
		n.High = high
		for _, key := range []string{"0", "AA", "N", "y", long("y", 16)} {
			putsNot(t, n, key, 7, api.ErrFull)
		}
		for _, sep := range n.Seps {
			putsNot(t, n, sep, 7, api.ErrTwice)
		}
		putsNot(t, n, "", 7, api.ErrArg)
	}
	n := full()
	n.High = "z"
	for _, key := range []string{"z", "zz", long("y", 17)} {
		putsNot(t, n, key, 7, api.ErrArg)
	}
	n = short(56)
	puts(t, n, "\x38", 57, short(57))
	putsNot(t, short(57), "\x39", 58, api.ErrFull)
}

// P11.2: Del: of the first kid the separator behind it goes, of others the one ahead.
func TestDel(t *testing.T) {
	n := of("f", 9, kids(1, 2, 3, 4), "b", "c", "d")
	dels(t, n, 0, of("f", 9, kids(2, 3, 4), "c", "d"))
	dels(t, n, 1, of("f", 9, kids(1, 3, 4), "c", "d"))
	dels(t, n, 2, of("f", 9, kids(1, 2, 4), "b", "d"))
	dels(t, n, 3, of("f", 9, kids(1, 2, 3), "b", "c"))
	dels(t, of("", 0, kids(3, 4), "m"), 0, of("", 0, kids(4)))
	dels(t, of("", 0, kids(3, 4), "m"), 1, of("", 0, kids(3)))
	dels(t, of("n", 1024, kids(5, 5), "m"), 0, of("n", 1024, kids(5)))
	for _, i := range []int{-1, 4, 5, 1024, math.MaxInt, math.MinInt, 1 << 32} {
		delsNot(t, n, i)
		delsNot(t, of("", 0, kids(7)), i)
	}
	delsNot(t, of("", 0, kids(7)), 0) // there is no other one
	delsNot(t, of("b", 3, kids(7)), 0)
	delsNot(t, of("b", 3, kids(7)), 1)
	for _, n := range wrong() {
		for _, i := range []int{-1, 0, 1, 2} {
			delsNot(t, n, i)
		}
	}
	for i := range 14 {
		m, e := inner.Del(full(), i)
		if e != api.OK || len(m.Kids) != 13 || slices.Contains(m.Kids, full().Kids[i]) || slices.Contains(m.Seps, full().Seps[max(i, 1)-1]) {
			t.Errorf("%d: %+v, %d", i, m, e)
		}
	}
}

// P11.2: Turn.
func TestTurn(t *testing.T) {
	n := of("f", 9, kids(1, 2, 3), "b", "d")
	turns(t, n, 0, 7, of("f", 9, kids(7, 2, 3), "b", "d"))
	turns(t, n, 1, 7, of("f", 9, kids(1, 7, 3), "b", "d"))
	turns(t, n, 2, 7, of("f", 9, kids(1, 2, 7), "b", "d"))
	turns(t, n, 1, 2, n)                                         // what it was
	turns(t, n, 1, 3, of("f", 9, kids(1, 3, 3), "b", "d"))       // what another one is
	turns(t, of("", 1024, kids(5)), 0, 6, of("", 1024, kids(6))) // the only one
	for _, kid := range []int{0, 255, 256, 1022, 1023} {
		turns(t, n, 2, kid, of("f", 9, kids(1, 2, kid), "b", "d"))
	}
	for _, i := range []int{-1, 3, 4, 1024, math.MaxInt, math.MinInt, 1 << 32} {
		turnsNot(t, n, i, 7)
		turnsNot(t, n, i, -1)
		turnsNot(t, of("", 0, kids(5)), i, 7)
	}
	turnsNot(t, of("", 0, kids(5)), 1, 7)
	for _, kid := range notPages() {
		for i := range 3 {
			turnsNot(t, n, i, kid)
		}
	}
	for _, n := range wrong() {
		for _, i := range []int{-1, 0, 1} {
			turnsNot(t, n, i, 7)
			turnsNot(t, n, i, -1)
		}
	}
}

// P11.3: Split, of so many separators: the one with the number s / 2 is told.
func TestSplit(t *testing.T) {
	for s := 2; s <= 57; s++ {
		n := short(s)
		n.High, n.Next = "\xff", 7
		was := clone(n)
		a, b, key, e := inner.Split(n, s)
		mid := s / 2
		if key != n.Seps[mid] || e != api.OK {
			t.Errorf("%d separators: %q, %d", s, key, e)
		}
		if !inner.Same(a, of(key, s+1, n.Kids[:mid+1], n.Seps[:mid]...)) {
			t.Errorf("%d separators: the first one is %+v", s, a)
		}
		if !inner.Same(b, of("\xff", 7, n.Kids[mid+1:], n.Seps[mid+1:]...)) {
			t.Errorf("%d separators: the second one is %+v", s, b)
		}
		if !inner.Right(a) || !inner.Right(b) {
			t.Errorf("%d separators: %+v, %+v may not be", s, a, b)
		}
		unchanged(t, n, was)
	}
	splits(t, of("f", 9, kids(1, 2, 3), "b", "d"), 5, of("d", 6, kids(1, 2), "b"), of("f", 9, kids(3)), "d")
	splits(t, of("", 0, kids(1, 2, 3, 4), "b", "d", "e"), 0, of("d", 1, kids(1, 2), "b"), of("", 0, kids(3, 4), "e"), "d")
	splits(t, of("", 1024, kids(4, 3, 2, 1, 0), "b", "c", "d", "e"), 1023, of("d", 1024, kids(4, 3, 2), "b", "c"), of("", 1024, kids(1, 0), "e"), "d")
	splits(t, of("", 0, kids(1, 1, 1), "b", long("d", 16)), 1, of(long("d", 16), 2, kids(1, 1), "b"), of("", 0, kids(1)), long("d", 16))
	splits(t, of("", 0, kids(1, 2, 3, 4), "b", long("d", 16), "e"), 1, of(long("d", 16), 2, kids(1, 2), "b"), of("", 0, kids(3, 4), "e"), long("d", 16)) // by number, not by bytes
	splits(t, of("", 0, kids(1, 2, 3, 4), long("b", 16), "d", "e"), 1, of("d", 2, kids(1, 2), long("b", 16)), of("", 0, kids(3, 4), "e"), "d")
	for _, page := range []int{0, 1, 8, 9, 512, 1022, 1023} { // also the one that Next tells, and a kid's
		splits(t, of("f", 9, kids(1, 2, 3), "b", "d"), page, of("d", page+1, kids(1, 2), "b"), of("f", 9, kids(3)), "d")
	}
}

func splits(t *testing.T, n inner.Inner, page int, one, other inner.Inner, want string) {
	t.Helper()
	was := clone(n)
	if a, b, key, e := inner.Split(n, page); !inner.Same(a, one) || !inner.Same(b, other) || key != want || e != api.OK {
		t.Errorf("Split(%+v, %d) = %+v, %+v, %q, %d; want %+v, %+v, %q", n, page, a, b, key, e, one, other, want)
	}
	unchanged(t, n, was)
}

// P11.3: Split, ErrArg.
func TestSplitWrong(t *testing.T) {
	not := func(n inner.Inner, page int) {
		t.Helper()
		was := clone(n)
		if a, b, key, e := inner.Split(n, page); !bare(a) || !bare(b) || key != "" || e != api.ErrArg {
			t.Errorf("Split(%+v, %d) = %+v, %+v, %q, %d; want ErrArg", n, page, a, b, key, e)
		}
		unchanged(t, n, was)
	}
	for _, page := range notPages() {
		not(of("f", 9, kids(1, 2, 3), "b", "d"), page)
		not(full(), page)
		not(of("", 0, kids(1)), page)
	}
	for _, page := range []int{0, 5, 1023} {
		not(of("", 0, kids(1)), page)
		not(of("f", 9, kids(1)), page)
		not(of("", 0, kids(1, 2), "b"), page) // two kids are too few
		not(of("f", 9, kids(1, 2), "b"), page)
		for _, n := range wrong() {
			not(n, page)
		}
	}
}

// held is a page whose texts, and whose lists, stand in memory of the test's own, with room behind the lists.
type held struct {
	n     inner.Inner
	bytes [][]byte
	seps  []string
	kids  []int
}

func hold(n inner.Inner) *held {
	h := &held{n: n, seps: slices.Repeat([]string{"behind"}, len(n.Seps)+3), kids: slices.Repeat([]int{-7}, len(n.Kids)+3)}
	for i, sep := range n.Seps {
		h.seps[i] = h.text(sep)
	}
	copy(h.kids, n.Kids)
	h.n.Seps, h.n.Kids = h.seps[:len(n.Seps)], h.kids[:len(n.Kids)]
	h.n.High = h.text(n.High)
	return h
}

// text is one whose bytes can be changed later.
func (h *held) text(s string) string {
	b := append([]byte(s), '!')
	h.bytes = append(h.bytes, b)
	return unsafe.String(unsafe.SliceData(b), len(s))
}

// unchanged tells whether what was handed in is what it was, the room behind it too; then it spoils all of it.
func (h *held) unchanged(t *testing.T, was inner.Inner) {
	t.Helper()
	unchanged(t, h.n, was)
	for _, sep := range h.seps[len(was.Seps):] {
		if sep != "behind" {
			t.Errorf("the room behind the separators was changed: %q", sep)
		}
	}
	for _, kid := range h.kids[len(was.Kids):] {
		if kid != -7 {
			t.Errorf("the room behind the kids was changed: %d", kid)
		}
	}
	for _, b := range h.bytes {
		if b[len(b)-1] != '!' {
			t.Errorf("bytes behind a text were changed: %q", b)
		}
		for i := range b {
			b[i] = '?'
		}
	}
	for i := range h.seps {
		h.seps[i] = "spoiled"
	}
	for i := range h.kids {
		h.kids[i] = -9
	}
}

// R4: what is handed in is neither changed nor kept, nor the room behind it.
func TestNothingIsKept(t *testing.T) {
	was := of("h", 9, kids(1, 2, 3, 4), "b", "d", "f")
	check := func(want inner.Inner, do func(h *held) (inner.Inner, api.Errno)) {
		t.Helper()
		h := hold(was)
		got, e := do(h)
		h.unchanged(t, was)
		if !inner.Same(got, want) || e != api.OK {
			t.Errorf("%+v, %d, behind the change of what was handed in; want %+v", got, e, want)
		}
	}
	for key, want := range map[string]inner.Inner{
		"a": of("h", 9, kids(1, 5, 2, 3, 4), "a", "b", "d", "f"),
		"e": of("h", 9, kids(1, 2, 3, 5, 4), "b", "d", "e", "f"),
		"g": of("h", 9, kids(1, 2, 3, 4, 5), "b", "d", "f", "g"),
	} {
		check(want, func(h *held) (inner.Inner, api.Errno) { return inner.Put(h.n, h.text(key), 5) })
	}
	for i, want := range []inner.Inner{
		of("h", 9, kids(2, 3, 4), "d", "f"), of("h", 9, kids(1, 3, 4), "d", "f"), of("h", 9, kids(1, 2, 4), "b", "f"), of("h", 9, kids(1, 2, 3), "b", "d"),
	} {
		check(want, func(h *held) (inner.Inner, api.Errno) { return inner.Del(h.n, i) })
	}
	check(of("h", 9, kids(1, 2, 5, 4), "b", "d", "f"), func(h *held) (inner.Inner, api.Errno) { return inner.Turn(h.n, 2, 5) })
	check(of("d", 4, kids(1, 2), "b"), func(h *held) (inner.Inner, api.Errno) { a, _, _, e := inner.Split(h.n, 3); return a, e })
	check(of("h", 9, kids(3, 4), "f"), func(h *held) (inner.Inner, api.Errno) { _, b, _, e := inner.Split(h.n, 3); return b, e })
	check(of("d", 0, nil), func(h *held) (inner.Inner, api.Errno) {
		_, _, key, e := inner.Split(h.n, 3)
		return inner.Inner{High: key}, e
	})
	check(was, func(h *held) (inner.Inner, api.Errno) { return inner.Decode(h.text(inner.Encode(h.n))) })
	h := hold(was)
	s := inner.Encode(h.n)
	at, e := inner.Find(h.n, h.text("e"))
	if !inner.Right(h.n) || inner.Size(h.n) != 20 || !inner.Same(h.n, was) {
		t.Error(inner.Size(h.n))
	}
	inner.Put(h.n, h.text("b"), 5) // errors change nothing either
	inner.Put(h.n, h.text("h"), 5)
	inner.Del(h.n, 4)
	inner.Turn(h.n, 4, 5)
	inner.Split(h.n, -1)
	h.unchanged(t, was)
	if s != inner.Encode(was) || at != 2 || e != api.OK {
		t.Errorf("%q, %d, %d", s, at, e)
	}
}

// spoil changes a page's lists, with the room behind them.
func spoil(n inner.Inner) {
	for i := range n.Seps[:cap(n.Seps)] {
		n.Seps[:cap(n.Seps)][i] = "spoiled"
	}
	for i := range n.Kids[:cap(n.Kids)] {
		n.Kids[:cap(n.Kids)][i] = -9
	}
}

// R4: what is answered is new memory, and no two lists of one answer share any.
func TestAnswersAreNew(t *testing.T) {
	n := of("h", 9, kids(1, 2, 3, 4), "b", "d", "f")
	was := clone(n)
	a, b, key, e := inner.Split(n, 3)
	if e != api.OK || unsafe.StringData(a.High) == unsafe.StringData(key) {
		t.Error("a text of the answer is shared:", e)
	}
	spoil(a)
	if !inner.Same(b, of("h", 9, kids(3, 4), "f")) {
		t.Errorf("the second half shares memory with the first one: %+v", b)
	}
	a, b, _, _ = inner.Split(n, 3)
	spoil(b)
	if !inner.Same(a, of("d", 4, kids(1, 2), "b")) {
		t.Errorf("the first half shares memory with the second one: %+v", a)
	}
	for i, do := range []func() (inner.Inner, api.Errno){
		func() (inner.Inner, api.Errno) { return inner.Decode("N\x01\x00\x00\x01z\x03\x00\x01m\x04\x00") },
		func() (inner.Inner, api.Errno) { return inner.Put(n, "a", 5) },
		func() (inner.Inner, api.Errno) { return inner.Put(n, "g", 5) },
		func() (inner.Inner, api.Errno) { return inner.Del(n, 0) },
		func() (inner.Inner, api.Errno) { return inner.Del(n, 3) },
		func() (inner.Inner, api.Errno) { return inner.Turn(n, 1, 2) },
	} {
		one, e := do()
		first := clone(one)
		other, f := do()
		spoil(one)
		if e != api.OK || f != api.OK || !inner.Same(other, first) || !inner.Same(n, was) {
			t.Errorf("%d: %+v, %d, %d; %+v", i, other, e, f, n)
		}
		if again, _ := do(); !inner.Same(again, first) { // R5
			t.Errorf("%d: first %+v, then %+v", i, first, again)
		}
	}
}

// R1: lists and texts that are very long end soon.
func TestVeryLong(t *testing.T) {
	seps, many := make([]string, 1<<20), make([]int, 1<<20+1)
	for i := range seps {
		seps[i] = string([]byte{byte(i >> 16), byte(i >> 8), byte(i)})
	}
	text := strings.Repeat("t", 1<<24)
	for i, n := range []inner.Inner{{Seps: seps, Kids: many}, {Kids: kids(1), High: text}, {Seps: []string{text}, Kids: kids(1, 2)}} {
		if inner.Right(n) || inner.Encode(n) != "" || inner.Size(n) < 1<<20 {
			t.Errorf("%d: may not be", i)
		}
		if at, e := inner.Find(n, "a"); at != 0 || e != api.ErrArg {
			t.Errorf("%d: Find: %d, %d", i, at, e)
		}
		putsNotLong(t, n, "a")
	}
	if inner.Right(inner.Inner{Kids: many}) || inner.Right(inner.Inner{Seps: seps}) {
		t.Error("may not be")
	}
	putsNotLong(t, of("", 0, kids(1)), text)
	noPage(t, "N"+strings.Repeat("\x00", 1<<24))
	findsNot(t, of("", 0, kids(1)), text)
}

func putsNotLong(t *testing.T, n inner.Inner, key string) {
	t.Helper()
	if m, e := inner.Put(n, key, 1); !bare(m) || e != api.ErrArg {
		t.Errorf("Put: %d", e)
	}
}

// The chapter's example.
func TestExamples(t *testing.T) {
	n, e := inner.Put(of("", 0, kids(3)), "m", 4)
	if e != api.OK {
		t.Fatal(e)
	}
	for key, want := range map[string]int{"a": 3, "l": 3, "lz": 3, "m": 4, "ma": 4, "z": 4} {
		if at, e := inner.Find(n, key); e != api.OK || n.Kids[at] != want {
			t.Errorf("%q: %d, %d; want %d", key, at, e, want)
		}
	}
}
