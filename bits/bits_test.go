package bits_test

import (
	"math"
	"math/rand"
	"slices"
	"strings"
	"testing"
	"unsafe"

	"budwood/api"
	"budwood/bits"
)

// model tells of each page whether it is taken, one bool a page, to hold Bits against.
type model []bool

func (m model) has(i int) bool { return i >= 0 && i < len(m) }

func (m model) bytes() string {
	b := make([]byte, (len(m)+7)/8)
	for i, taken := range m {
		if taken {
			b[i/8] += 1 << (i % 8)
		}
	}
	return string(b)
}

func (m model) taken() []int {
	all := []int{}
	for i, taken := range m {
		if taken {
			all = append(all, i)
		}
	}
	return all
}

func (m model) take(from int) (int, api.Errno) {
	if !m.has(from) {
		return 0, api.ErrArg
	}
	for i := from; i < len(m); i++ {
		if !m[i] {
			m[i] = true
			return i, api.OK
		}
	}
	for i := 0; i < from; i++ {
		if !m[i] {
			m[i] = true
			return i, api.OK
		}
	}
	return 0, api.ErrFull
}

func (m model) takeAt(i int) api.Errno {
	switch {
	case !m.has(i):
		return api.ErrArg
	case m[i]:
		return api.ErrTwice
	}
	m[i] = true
	return api.OK
}

func (m model) give(i int) api.Errno {
	switch {
	case !m.has(i):
		return api.ErrArg
	case !m[i]:
		return api.ErrNone
	}
	m[i] = false
	return api.OK
}

func (m model) run(n int) (int, bool) {
	for i := 0; n >= 1 && i+n <= len(m); i++ {
		if !slices.Contains(m[i:i+n], true) {
			return i, true
		}
	}
	return 0, false
}

// newBits is n pages that must be there.
func newBits(t *testing.T, n int) *bits.Bits {
	t.Helper()
	b, e := bits.New(n)
	if e != api.OK || b == nil {
		t.Fatalf("New(%d) = %v, %d", n, b, e)
	}
	return b
}

// loaded is what must be loaded.
func loaded(t *testing.T, s string, n int) *bits.Bits {
	t.Helper()
	b, e := bits.Load(s, n)
	if e != api.OK || b == nil {
		t.Fatalf("Load(%x, %d) = %v, %d", s, n, b, e)
	}
	return b
}

// hold holds all that b tells against a model.
func hold(t *testing.T, b *bits.Bits, m model) {
	t.Helper()
	taken := m.taken()
	if got := b.Taken(); !slices.Equal(got, taken) {
		t.Fatalf("Taken() = %v; want %v", got, taken)
	}
	if got := b.Free(); got != len(m)-len(taken) {
		t.Fatalf("Free() = %d; want %d", got, len(m)-len(taken))
	}
	if got := b.Len(); got != len(m) {
		t.Fatalf("Len() = %d; want %d", got, len(m))
	}
	if got := b.Save(); got != m.bytes() {
		t.Fatalf("Save() = %x; want %x", got, m.bytes())
	}
	for i := -9; i < len(m)+9; i++ {
		if got := b.Is(i); got != (m.has(i) && m[i]) {
			t.Fatalf("Is(%d) = %v of %x", i, got, m.bytes())
		}
	}
}

// holdRun holds Run against a model.
func holdRun(t *testing.T, b *bits.Bits, m model, n int) {
	t.Helper()
	at, is := b.Run(n)
	if wantAt, want := m.run(n); at != wantAt || is != want {
		t.Fatalf("Run(%d) = %d, %v of %x, %d pages; want %d, %v", n, at, is, m.bytes(), len(m), wantAt, want)
	}
}

// everyState calls f with each state of n pages.
func everyState(n int, f func(m model)) {
	for state := range 1 << n {
		m := make(model, n)
		for i := range m {
			m[i] = state>>i&1 == 1
		}
		f(m)
	}
}

// sizes are numbers of pages: the least and the greatest, and such as fill their bytes, one fewer and one more.
var sizes = []int{1, 2, 7, 8, 9, 15, 16, 17, 255, 256, 257, 1015, 1016, 1017, 1023, 1024}

// far are numbers that are no page of anything.
var far = []int{-1, -8, -1024, math.MinInt, 1024, 1025, 1 << 32, 1<<63 - 8, math.MaxInt}

// The document's example.
func TestExample(t *testing.T) {
	b := newBits(t, 10)
	for i, want := range []int{9, 0} {
		if n, e := b.Take(9); n != want || e != api.OK {
			t.Errorf("%d: Take(9) = %d, %d; want %d", i, n, e, want)
		}
	}
	if at, is := b.Run(8); at != 1 || !is {
		t.Errorf("Run(8) = %d, %v; want 1", at, is)
	}
	if s := b.Save(); s != "\x01\x02" {
		t.Errorf("Save() = %x; want 0102", s)
	}
}

// P3.1: New, of each number of pages that may be, has none taken.
func TestNew(t *testing.T) {
	for n := 1; n <= api.MaxPages; n++ {
		b := newBits(t, n)
		if s := b.Save(); s != strings.Repeat("\x00", (n+7)/8) {
			t.Errorf("New(%d).Save() = %x", n, s)
		}
		if b.Len() != n || b.Free() != n || len(b.Taken()) != 0 {
			t.Errorf("New(%d): Len %d, Free %d, Taken %v", n, b.Len(), b.Free(), b.Taken())
		}
	}
	for _, n := range sizes {
		hold(t, newBits(t, n), make(model, n))
	}
}

// P3.1: New and Load, of numbers of pages that may not be; ErrArg is told ahead of ErrForm.
func TestWrongSize(t *testing.T) {
	for _, n := range []int{0, -1, -7, -8, 1025, 1032, 1 << 32, math.MinInt, math.MaxInt} {
		if b, e := bits.New(n); b != nil || e != api.ErrArg {
			t.Errorf("New(%d) = %v, %d; want nil, ErrArg", n, b, e)
		}
		for _, s := range []string{"", "\x00", strings.Repeat("\x00", 128), strings.Repeat("\xff", 129)} {
			if b, e := bits.Load(s, n); b != nil || e != api.ErrArg {
				t.Errorf("Load(%d bytes, %d) = %v, %d; want nil, ErrArg", len(s), n, b, e)
			}
		}
	}
}

// P3.1: Load, of too few bytes and of too many.
func TestLoadLength(t *testing.T) {
	for _, n := range sizes {
		want := (n + 7) / 8
		for length := range 140 {
			b, e := bits.Load(strings.Repeat("\x00", length), n)
			if length == want {
				if b == nil || e != api.OK {
					t.Errorf("Load(%d bytes, %d) = %v, %d; want OK", length, n, b, e)
				}
			} else if b != nil || e != api.ErrForm {
				t.Errorf("Load(%d bytes, %d) = %v, %d; want nil, ErrForm", length, n, b, e)
			}
		}
	}
}

// P3.1: Load, of each last byte: bits beyond the last page may not be.
func TestLoadLastByte(t *testing.T) {
	for _, n := range []int{1, 2, 3, 4, 5, 6, 7, 8, 9, 12, 15, 16, 17, 1017, 1018, 1023, 1024} {
		front := strings.Repeat("\xa5", (n+7)/8-1)
		used := n - len(front)*8
		for last := range 256 {
			s := front + string([]byte{byte(last)})
			b, e := bits.Load(s, n)
			if last < 1<<used {
				if b == nil || e != api.OK || b.Save() != s {
					t.Errorf("Load(.. %02x, %d) = %v, %d; want OK", last, n, b, e)
				}
			} else if b != nil || e != api.ErrForm {
				t.Errorf("Load(.. %02x, %d) = %v, %d; want nil, ErrForm", last, n, b, e)
			}
		}
	}
}

// P3.1, P3.4: every state of few pages is loaded as it was saved, and all that it tells is so.
func TestEveryState(t *testing.T) {
	for n := 1; n <= 10; n++ {
		everyState(n, func(m model) {
			b := loaded(t, m.bytes(), n)
			hold(t, b, m)
			hold(t, loaded(t, b.Save(), n), m)
			for run := -2; run <= n+2; run++ {
				holdRun(t, b, m, run)
			}
		})
	}
}

// P3.2: Take, TakeAt and Give of each page and of none, in every state of few pages: what is told, and what is there behind it.
func TestEveryStep(t *testing.T) {
	for _, n := range []int{1, 2, 7, 8, 9} {
		everyState(n, func(m model) {
			for i := -2; i < n+2; i++ {
				step(t, "Take", m, i)
				step(t, "TakeAt", m, i)
				step(t, "Give", m, i)
			}
		})
	}
}

// step does one call on a state, and holds it against the same one of the model.
func step(t *testing.T, call string, was model, i int) {
	t.Helper()
	b, m := loaded(t, was.bytes(), len(was)), slices.Clone(was)
	act(t, call, b, m, i)
	hold(t, b, m)
}

// act does one call on both, and holds their answers against each other.
func act(t *testing.T, call string, b *bits.Bits, m model, i int) {
	t.Helper()
	var got, want int
	var e, wantE api.Errno
	was := m.bytes()
	switch call {
	case "Take":
		got, e = b.Take(i)
		want, wantE = m.take(i)
	case "TakeAt":
		e, wantE = b.TakeAt(i), m.takeAt(i)
	case "Give":
		e, wantE = b.Give(i), m.give(i)
	}
	if got != want || e != wantE {
		t.Fatalf("%s(%d) of %x, %d pages = %d, %d; want %d, %d", call, i, was, len(m), got, e, want, wantE)
	}
}

// P3.2: Take from the last page, round the end, till none is free.
func TestTakeRound(t *testing.T) {
	for _, n := range sizes {
		for _, from := range []int{0, n / 2, n - 1} {
			b := newBits(t, n)
			for k := range n {
				if i, e := b.Take(from); i != (from+k)%n || e != api.OK {
					t.Fatalf("Take(%d) of %d pages, the %dth time = %d, %d", from, n, k, i, e)
				}
			}
			if i, e := b.Take(from); i != 0 || e != api.ErrFull {
				t.Errorf("Take(%d) of %d pages, all taken = %d, %d; want 0, ErrFull", from, n, i, e)
			}
			if b.Free() != 0 || len(b.Taken()) != n {
				t.Errorf("%d pages, all taken: Free %d, Taken %v", n, b.Free(), b.Taken())
			}
			if e := b.Give(from); e != api.OK {
				t.Errorf("Give(%d) = %d", from, e)
			}
			if i, e := b.Take((from + 1) % n); i != from || e != api.OK {
				t.Errorf("Take(%d) of %d pages with one free = %d, %d; want %d", (from+1)%n, n, i, e, from)
			}
		}
	}
}

// P3.2: ErrArg of a page that is none, also where all are taken, and where none is; nothing changes.
func TestNoSuchPage(t *testing.T) {
	for _, n := range sizes {
		none, all := newBits(t, n), newBits(t, n)
		for i := range n {
			all.TakeAt(i)
		}
		for _, i := range append([]int{n, n + 1, n + 7, n + 8}, far...) {
			for _, b := range []*bits.Bits{none, all} {
				was := b.Save()
				if got, e := b.Take(i); got != 0 || e != api.ErrArg {
					t.Errorf("Take(%d) of %d pages = %d, %d; want 0, ErrArg", i, n, got, e)
				}
				if e := b.TakeAt(i); e != api.ErrArg {
					t.Errorf("TakeAt(%d) of %d pages = %d; want ErrArg", i, n, e)
				}
				if e := b.Give(i); e != api.ErrArg {
					t.Errorf("Give(%d) of %d pages = %d; want ErrArg", i, n, e)
				}
				if b.Is(i) {
					t.Errorf("Is(%d) of %d pages", i, n)
				}
				if b.Save() != was {
					t.Errorf("page %d of %d: %x became %x", i, n, was, b.Save())
				}
			}
		}
	}
}

// P3.2, P3.4: a page is taken by one at a time, and given back once.
func TestOneAtATime(t *testing.T) {
	for _, n := range sizes {
		b := newBits(t, n)
		for i := range n {
			for k, want := range []api.Errno{api.OK, api.ErrTwice, api.ErrTwice} {
				if e := b.TakeAt(i); e != want {
					t.Errorf("TakeAt(%d) of %d pages, the %dth time = %d; want %d", i, n, k, e, want)
				}
			}
			for k, want := range []api.Errno{api.OK, api.ErrNone, api.ErrNone} {
				if e := b.Give(i); e != want {
					t.Errorf("Give(%d) of %d pages, the %dth time = %d; want %d", i, n, k, e, want)
				}
			}
			if e := b.TakeAt(i); e != api.OK {
				t.Errorf("TakeAt(%d) of %d pages, given back = %d", i, n, e)
			}
		}
		if b.Free() != 0 {
			t.Errorf("%d pages, all taken: Free() = %d", n, b.Free())
		}
	}
}

// P3.3: Run of no pages, of all, and of more than there are.
func TestRunEdges(t *testing.T) {
	for _, n := range sizes {
		b := newBits(t, n)
		for _, x := range []struct {
			n  int
			is bool
		}{{math.MinInt, false}, {-1, false}, {0, false}, {1, true}, {n, true}, {n + 1, false}, {1025, false}, {math.MaxInt, false}} {
			if at, is := b.Run(x.n); at != 0 || is != x.is {
				t.Errorf("Run(%d) of %d free pages = %d, %v; want 0, %v", x.n, n, at, is, x.is)
			}
		}
		b.TakeAt(0)
		if at, is := b.Run(n); at != 0 || is {
			t.Errorf("Run(%d) of %d pages, the first one taken = %d, %v", n, n, at, is)
		}
		for _, k := range []int{0, -1} {
			if at, is := b.Run(k); at != 0 || is {
				t.Errorf("Run(%d) of %d pages, the first one taken = %d, %v", k, n, at, is)
			}
		}
		if n == 1 {
			continue
		}
		if at, is := b.Run(n - 1); at != 1 || !is {
			t.Errorf("Run(%d) of %d pages, the first one taken = %d, %v; want 1", n-1, n, at, is)
		}
	}
}

// P3.3: Run goes not round the end, and tells the least of several places.
func TestRunPlaces(t *testing.T) {
	b := loaded(t, "\x3c\x92", 16) // free: 0 1, 6 to 8, 10 11, 13 14
	for n, want := range []int{-1, 0, 0, 6, -1} {
		at, is := b.Run(n)
		if is != (want >= 0) || at != max(want, 0) {
			t.Errorf("Run(%d) = %d, %v; want %d", n, at, is, want)
		}
	}
	ends := loaded(t, "\x7e", 8) // free: 0 and 7, side by side only round the end
	if at, is := ends.Run(2); at != 0 || is {
		t.Errorf("Run(2) = %d, %v; want none", at, is)
	}
}

// P3.1 to P3.4: many calls by chance, the same ones in every run, on many numbers of pages.
func TestByChance(t *testing.T) {
	r := rand.New(rand.NewSource(3))
	calls := []string{"Take", "Take", "TakeAt", "TakeAt", "Give", "Give", "Give"}
	for _, n := range sizes {
		b, m := newBits(t, n), make(model, n)
		for range 2000 {
			act(t, calls[r.Intn(len(calls))], b, m, r.Intn(n+2)-1)
			if r.Intn(20) == 0 {
				hold(t, b, m)
				holdRun(t, b, m, r.Intn(min(n, 20)+2))
				b = loaded(t, b.Save(), n)
			}
		}
		hold(t, b, m)
	}
}

// P3.3, R7: a copy tells what its original tells, and each goes its own way from then on; one that is loaded too.
func TestCopy(t *testing.T) {
	for _, n := range sizes {
		m := make(model, n)
		for i := range m {
			m[i] = i%3 == 0
		}
		b := loaded(t, m.bytes(), n)
		c := b.Copy()
		if c == b {
			t.Fatal("a copy is its original")
		}
		hold(t, c, m)
		other := slices.Clone(m)
		act(t, "Give", c, other, 0)
		act(t, "Take", c, other, n-1)
		act(t, "Take", c, other, n-1)
		hold(t, c, other)
		hold(t, b, m)
		act(t, "Give", b, m, 0)
		act(t, "TakeAt", b, m, n-1)
		hold(t, b, m)
		hold(t, c, other)
		hold(t, c.Copy(), other)
	}
	b := newBits(t, 9)
	saved := b.Save()
	d := loaded(t, saved, 9)
	d.TakeAt(8)
	if b.Is(8) || saved != "\x00\x00" {
		t.Errorf("what was saved is %x, and 8 is taken: %v", saved, b.Is(8))
	}
}

// R4: what is answered is new memory: nothing that is done to it, or to Bits behind it, shows elsewhere.
func TestMemory(t *testing.T) {
	from := string([]byte{0x49, 0x08})
	b := loaded(t, from, 12)
	one, two := b.Save(), b.Save()
	for _, x := range [][2]string{{from, one}, {one, two}} {
		if unsafe.StringData(x[0]) == unsafe.StringData(x[1]) {
			t.Error("bytes are shared")
		}
	}
	first := b.Taken()
	all := first[:cap(first)]
	for i := range all {
		all[i] = 99
	}
	if want := []int{0, 3, 6, 11}; !slices.Equal(b.Taken(), want) {
		t.Errorf("Taken() = %v; want %v", b.Taken(), want)
	}
	second := b.Taken()
	b.Give(3)
	b.Take(0)
	if !slices.Equal(second, []int{0, 3, 6, 11}) || one != "\x49\x08" || two != one || from != one {
		t.Errorf("what was answered changed: %v, %x, %x, %x", second, one, two, from)
	}
}

// P3.3: what only tells changes nothing.
func TestTellingChangesNothing(t *testing.T) {
	m := model{true, false, false, true, false, true, true, false, false, false}
	b := loaded(t, m.bytes(), len(m))
	for range 2 {
		b.Run(2)
		b.Run(99)
		b.Copy().Take(0)
		hold(t, b, m)
	}
}
