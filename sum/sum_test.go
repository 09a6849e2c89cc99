package sum_test

import (
	"math/rand"
	"strings"
	"testing"
	"unsafe"

	"budwood/api"
	"budwood/sum"
)

// bitByBit is the sum as the document tells it, without any array, to hold Of against.
func bitByBit(s string) uint32 {
	n := uint32(0xffffffff)
	for i := range len(s) {
		n ^= uint32(s[i])
		for range 8 {
			if n&1 == 1 {
				n = n>>1 ^ 0x82f63b78
			} else {
				n >>= 1
			}
		}
	}
	return ^n
}

// fourBytes is a number's four bytes, the lowest first.
func fourBytes(n uint32) string {
	return string([]byte{byte(n), byte(n >> 8), byte(n >> 16), byte(n >> 24)})
}

// chanceText is n bytes, the same ones in every run.
func chanceText(r *rand.Rand, n int) string {
	b := make([]byte, n)
	for i := range b {
		b[i] = byte(r.Intn(256))
	}
	return string(b)
}

// sealed is a page that must be one.
func sealed(t *testing.T, s string) string {
	t.Helper()
	p, e := sum.Seal(s)
	if e != api.OK {
		t.Fatalf("Seal of %d bytes: %d", len(s), e)
	}
	return p
}

// P2.1: Of, sums that are known.
func TestOfKnown(t *testing.T) {
	rising, falling := make([]byte, 32), make([]byte, 32)
	for i := range 32 {
		rising[i], falling[i] = byte(i), byte(31-i)
	}
	for i, x := range []struct {
		s    string
		want uint32
	}{
		{"", 0},
		{"a", 0xc1d04330},
		{"123456789", 0xe3069283},
		{strings.Repeat("\x00", 32), 0x8a9136aa},
		{strings.Repeat("\xff", 32), 0x62a8ab43},
		{string(rising), 0x46dd794e},
		{string(falling), 0x113fdb5c},
	} {
		if n := sum.Of(x.s); n != x.want {
			t.Errorf("%d: Of = %#x; want %#x", i, n, x.want)
		}
	}
}

// P2.1: Of, every byte alone, and texts of all lengths up to beyond a page.
func TestOfAll(t *testing.T) {
	for i := range 256 {
		s := string([]byte{byte(i)})
		if n, want := sum.Of(s), bitByBit(s); n != want {
			t.Errorf("byte %d: %#x; want %#x", i, n, want)
		}
	}
	r := rand.New(rand.NewSource(2))
	for size := range 600 {
		s := chanceText(r, size)
		if n, want := sum.Of(s), bitByBit(s); n != want {
			t.Errorf("%d bytes: %#x; want %#x", size, n, want)
		}
	}
	long := chanceText(r, 1<<20)
	if n, want := sum.Of(long), bitByBit(long); n != want {
		t.Errorf("long: %#x; want %#x", n, want)
	}
}

// P2.1: bytes 0, and bytes in another order, are not passed over.
func TestOfTellsApart(t *testing.T) {
	seen := map[uint32]string{}
	for _, s := range []string{"", "\x00", "\x00\x00", "ab", "ba", "ab\x00", "\x00ab", "a", "b"} {
		n := sum.Of(s)
		if was, ok := seen[n]; ok {
			t.Errorf("%q and %q have the sum %#x", was, s, n)
		}
		seen[n] = s
	}
}

// P2.1: Seal, from nothing up to all that a page has room for.
func TestSeal(t *testing.T) {
	r := rand.New(rand.NewSource(3))
	for size := range 253 {
		s := chanceText(r, size)
		body := s + strings.Repeat("\x00", 252-size)
		want := body + fourBytes(bitByBit(body))
		p, e := sum.Seal(s)
		if e != api.OK || p != want {
			t.Errorf("%d bytes: %q, %d", size, p, e)
		}
	}
}

// P2.1: the sum is that of all 252 bytes, not of what was handed in, and stands lowest byte first.
func TestSealPlain(t *testing.T) {
	p := sealed(t, "")
	if want := strings.Repeat("\x00", 252) + fourBytes(bitByBit(strings.Repeat("\x00", 252))); p != want {
		t.Errorf("of nothing: %q", p)
	}
	if p[252:] == fourBytes(sum.Of("")) {
		t.Error("of nothing: the sum of no bytes stands there")
	}
	if sealed(t, "ab") != sealed(t, "ab\x00\x00") {
		t.Error("bytes 0 at the end make another page")
	}
}

// P2.1: Seal, more than a page has room for.
func TestSealBig(t *testing.T) {
	for _, size := range []int{253, 254, 255, 256, 257, 1000, 65536, 65537, 1 << 20} {
		for _, c := range []string{"x", "\x00"} {
			if p, e := sum.Seal(strings.Repeat(c, size)); p != "" || e != api.ErrBig {
				t.Errorf("%d bytes %q: %q, %d", size, c, p, e)
			}
		}
	}
}

// P2.2: Open, pages made by hand.
func TestOpen(t *testing.T) {
	r := rand.New(rand.NewSource(4))
	for i := range 100 {
		body := chanceText(r, 252)
		if s, e := sum.Open(body + fourBytes(bitByBit(body))); s != body || e != api.OK {
			t.Errorf("%d: %q, %d", i, s, e)
		}
	}
	zero := strings.Repeat("\x00", 252)
	if s, e := sum.Open(zero + fourBytes(bitByBit(zero))); s != zero || e != api.OK {
		t.Errorf("bytes 0: %q, %d", s, e)
	}
}

// P2.2: Open, of what has not the size of a page, whatever its sum.
func TestOpenForm(t *testing.T) {
	for _, size := range []int{0, 1, 3, 4, 5, 128, 252, 253, 255, 257, 258, 260, 512} {
		s := strings.Repeat("x", size)
		if got, e := sum.Open(s); got != "" || e != api.ErrForm {
			t.Errorf("%d bytes: %q, %d", size, got, e)
		}
		if size < 4 {
			continue
		}
		body := s[:size-4]
		if got, e := sum.Open(body + fourBytes(bitByBit(body))); got != "" || e != api.ErrForm {
			t.Errorf("%d bytes with their sum: %q, %d", size, got, e)
		}
	}
	p := sealed(t, "abc")
	for _, s := range []string{p[:255], p[1:], p + "\x00", "\x00" + p, p + p} {
		if got, e := sum.Open(s); got != "" || e != api.ErrForm {
			t.Errorf("a page cut or longer, %d bytes: %q, %d", len(s), got, e)
		}
	}
}

// P2.2: Open, of a page with another sum.
func TestOpenSum(t *testing.T) {
	body := strings.Repeat("q", 252)
	n := bitByBit(body)
	for i, x := range []string{
		strings.Repeat("\x00", 4), strings.Repeat("\xff", 4), fourBytes(^n), fourBytes(n + 1), fourBytes(n - 1),
		string([]byte{byte(n >> 24), byte(n >> 16), byte(n >> 8), byte(n)}),
		fourBytes(n ^ 1<<31), fourBytes(n ^ 1),
	} {
		if s, e := sum.Open(body + x); s != "" || e != api.ErrSum {
			t.Errorf("%d: %q, %d", i, s, e)
		}
	}
	if s, e := sum.Open(strings.Repeat("\x00", 256)); s != "" || e != api.ErrSum {
		t.Errorf("bytes 0 alone: %q, %d", s, e)
	}
}

// P2.3: Torn, whole pages, and what has less than half of one, or more than one.
func TestTorn(t *testing.T) {
	r := rand.New(rand.NewSource(5))
	sizes := []int{0, 1, 2, 127, 128, 129, 130, 252, 255, 256, 257, 300, 1000}
	for _, n := range sizes {
		for _, w := range sizes {
			now, was := chanceText(r, n), chanceText(r, w)
			want := now
			if n > 128 {
				want = now[:128]
			}
			if w > 128 {
				want += was[128:]
			}
			if got := sum.Torn(now, was); got != want {
				t.Errorf("%d bytes now, %d bytes then: %q; want %q", n, w, got, want)
			}
		}
	}
}

// P2.3: what is not whole is no page: Open knows it, unless the halves belong together.
func TestTornIsKnown(t *testing.T) {
	now, was := sealed(t, strings.Repeat("a", 252)), sealed(t, strings.Repeat("b", 252))
	if s, e := sum.Open(sum.Torn(now, was)); s != "" || e != api.ErrSum {
		t.Errorf("two pages: %q, %d", s, e)
	}
	if s, e := sum.Open(sum.Torn(now, "")); s != "" || e != api.ErrForm {
		t.Errorf("nothing was there: %q, %d", s, e)
	}
	if got := sum.Torn(now, now); got != now {
		t.Errorf("the same page: %q", got)
	}
}

// P2.4: what is sealed is opened.
func TestSealedIsOpened(t *testing.T) {
	r := rand.New(rand.NewSource(6))
	for size := range 253 {
		s := chanceText(r, size)
		got, e := sum.Open(sealed(t, s))
		if e != api.OK || got != s+strings.Repeat("\x00", 252-size) {
			t.Errorf("%d bytes: %q, %d", size, got, e)
		}
	}
}

// P2.4: of a page one byte of which is another one Open tells ErrSum, whichever it is, and whatever it is now.
func TestOneByteOther(t *testing.T) {
	r := rand.New(rand.NewSource(7))
	for _, s := range []string{"", "abc", strings.Repeat("\xff", 252), chanceText(r, 252)} {
		p := sealed(t, s)
		for i := range len(p) {
			for x := 1; x < 256; x++ {
				b := []byte(p)
				b[i] ^= byte(x)
				if got, e := sum.Open(string(b)); got != "" || e != api.ErrSum {
					t.Fatalf("byte %d laid over by %#x: %q, %d", i, x, got, e)
				}
			}
		}
	}
}

// R4: an answer shares no memory with an argument.
func TestNewMemory(t *testing.T) {
	within := func(part, whole string) bool {
		if len(part) == 0 || len(whole) == 0 {
			return false
		}
		from := uintptr(unsafe.Pointer(unsafe.StringData(whole)))
		at := uintptr(unsafe.Pointer(unsafe.StringData(part)))
		return at >= from && at < from+uintptr(len(whole))
	}
	full := strings.Repeat("f", 252)
	p := sealed(t, full)
	if within(p, full) {
		t.Error("Seal")
	}
	if s, e := sum.Open(p); e != api.OK || within(s, p) {
		t.Error("Open")
	}
	a, b := strings.Repeat("a", 128), strings.Repeat("b", 256)
	for i, x := range []struct{ now, was string }{{a, ""}, {"", b}, {a, b}, {b, a}} {
		if s := sum.Torn(x.now, x.was); within(s, x.now) || within(s, x.was) {
			t.Errorf("Torn %d", i)
		}
	}
}
