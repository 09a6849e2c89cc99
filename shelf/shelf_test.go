package shelf_test

import (
	"math"
	"slices"
	"strings"
	"testing"
	"unsafe"

	"budwood/api"
	"budwood/bits"
	"budwood/shelf"
)

const room = 252 // bytes of a page

// newShelf is n pages that must be there.
func newShelf(t *testing.T, n int) *shelf.Shelf {
	t.Helper()
	s, e := shelf.New(n)
	if e != api.OK || s == nil {
		t.Fatalf("New(%d) = %v, %d", n, s, e)
	}
	return s
}

// taken is n pages, each of them taken, with the bytes of a list as far as it goes.
func taken(t *testing.T, n int, bytes ...string) *shelf.Shelf {
	t.Helper()
	s := newShelf(t, n)
	for i := range n {
		takes(t, s, i)
	}
	for i, b := range bytes {
		writes(t, s, i, b)
	}
	return s
}

// takes is a Take that must answer that page.
func takes(t *testing.T, s *shelf.Shelf, want int) {
	t.Helper()
	if i, e := s.Take(); i != want || e != api.OK {
		t.Fatalf("Take() = %d, %d; want %d", i, e, want)
	}
}

// is holds an error against the one that it must be.
func is(t *testing.T, what string, got, want api.Errno) {
	t.Helper()
	if got != want {
		t.Errorf("%s = %d; want %d", what, got, want)
	}
}

// writes is a Write that must be right.
func writes(t *testing.T, s *shelf.Shelf, i int, b string) {
	t.Helper()
	if e := s.Write(i, b); e != api.OK {
		t.Fatalf("Write(%d, %d bytes) = %d", i, len(b), e)
	}
}

// reads holds the first pages against the bytes that they must have.
func reads(t *testing.T, s *shelf.Shelf, want ...string) {
	t.Helper()
	for i, b := range want {
		if got, e := s.Read(i); got != b || e != api.OK {
			t.Errorf("Read(%d) = %q, %d; want %q", i, got, e, b)
		}
	}
}

// sizes are numbers of pages: the least and the greatest, and such as are near to a power of two.
var sizes = []int{1, 2, 3, 7, 8, 9, 15, 16, 17, 255, 256, 257, 1023, 1024}

// far are numbers that are no page of anything.
var far = []int{-1, -2, -1024, math.MinInt, 1024, 1025, 1 << 32, math.MaxInt}

// The document's example.
func TestExample(t *testing.T) {
	s := newShelf(t, 2)
	takes(t, s, 0)
	takes(t, s, 1)
	is(t, "Give(0)", s.Give(0), api.OK)
	takes(t, s, 0)
}

// P12.1: New, of each number of pages that may be, has none taken; Len is how many there are.
func TestNew(t *testing.T) {
	for n := 1; n <= api.MaxPages; n++ {
		s := newShelf(t, n)
		if s.Len() != n || s.Free() != n || len(s.Taken()) != 0 {
			t.Errorf("New(%d): Len %d, Free %d, Taken %v", n, s.Len(), s.Free(), s.Taken())
		}
		if at, is := s.Run(n); at != 0 || !is {
			t.Errorf("New(%d).Run(%d) = %d, %v", n, n, at, is)
		}
	}
	for _, n := range sizes {
		hold(t, newShelf(t, n), make(model, n))
	}
}

// P12.1: New, of numbers of pages that may not be.
func TestWrongSize(t *testing.T) {
	for _, n := range []int{0, -1, -8, 1025, 1026, 2048, 1 << 32, math.MinInt, math.MaxInt} {
		s, e := shelf.New(n)
		if _, want := bits.New(n); s != nil || e != api.ErrArg || e != want {
			t.Errorf("New(%d) = %v, %d; want nil, ErrArg", n, s, e)
		}
	}
}

// P12.1: Len hangs on nothing that happens to the pages.
func TestLen(t *testing.T) {
	for _, n := range sizes {
		s := taken(t, n, "a")
		if s.Len() != n {
			t.Errorf("Len() of %d pages, all taken = %d", n, s.Len())
		}
		s.Give(n - 1)
		if s.Len() != n || s.Copy().Len() != n {
			t.Errorf("Len() of %d pages, one free = %d", n, s.Len())
		}
	}
}

// P12.2: Take takes the least free page, till none is free; each has no bytes.
func TestTake(t *testing.T) {
	for _, n := range sizes {
		s := newShelf(t, n)
		for i := range n {
			takes(t, s, i)
			reads(t, s, make([]string, i+1)...)
			if s.Free() != n-i-1 {
				t.Fatalf("Free() = %d of %d pages, %d of them taken", s.Free(), n, i+1)
			}
		}
		for range 2 {
			if i, e := s.Take(); i != 0 || e != api.ErrFull {
				t.Errorf("Take() of %d pages, all taken = %d, %d; want 0, ErrFull", n, i, e)
			}
		}
		for _, i := range []int{n - 1, 0, n / 2} { // the only free one, wherever it is
			is(t, "Give", s.Give(i), api.OK)
			takes(t, s, i)
		}
	}
}

// P12.2: Take does not begin where it left off, nor behind a page that TakeAt took or that was given back.
func TestTakeLeast(t *testing.T) {
	s := newShelf(t, 8)
	is(t, "TakeAt(5)", s.TakeAt(5), api.OK)
	takes(t, s, 0)
	is(t, "TakeAt(1)", s.TakeAt(1), api.OK)
	takes(t, s, 2)
	is(t, "Give(1)", s.Give(1), api.OK)
	is(t, "Give(0)", s.Give(0), api.OK)
	for _, want := range []int{0, 1, 3, 4, 6, 7} {
		takes(t, s, want)
	}
}

// P12.2: a page is taken once, and given back once.
func TestOneAtATime(t *testing.T) {
	for _, n := range sizes {
		s := newShelf(t, n)
		for i := range n {
			for _, want := range []api.Errno{api.OK, api.ErrTwice, api.ErrTwice} {
				is(t, "TakeAt", s.TakeAt(i), want)
			}
			for _, want := range []api.Errno{api.OK, api.ErrNone, api.ErrNone} {
				is(t, "Give", s.Give(i), want)
			}
			is(t, "TakeAt of one that was given back", s.TakeAt(i), api.OK)
		}
		if s.Free() != 0 || len(s.Taken()) != n {
			t.Errorf("%d pages, all taken: Free %d, Taken %v", n, s.Free(), s.Taken())
		}
	}
}

// P12.2, R2: TakeAt of a page that is taken leaves it its bytes.
func TestTakenTwice(t *testing.T) {
	s := taken(t, 3, "a", "b", "")
	for i := range 3 {
		is(t, "TakeAt", s.TakeAt(i), api.ErrTwice)
	}
	if i, e := s.Take(); i != 0 || e != api.ErrFull {
		t.Errorf("Take() = %d, %d; want 0, ErrFull", i, e)
	}
	hold(t, s, model{{true, "a"}, {true, "b"}, {true, ""}})
}

// P12.2, P12.3: ErrArg of a page that is none, and ErrNone of one that is free; nothing changes.
func TestNoSuchPage(t *testing.T) {
	long := strings.Repeat("x", room+1)
	for _, n := range sizes {
		none, all := newShelf(t, n), taken(t, n, "a")
		noneModel, allModel := make(model, n), make(model, n)
		for i := range allModel {
			allModel[i].taken = true
		}
		allModel[0].bytes = "a"
		for _, i := range append([]int{n, n + 1, n + 8}, far...) {
			for _, s := range []*shelf.Shelf{none, all} {
				is(t, "TakeAt", s.TakeAt(i), api.ErrArg)
				is(t, "Give", s.Give(i), api.ErrArg)
				is(t, "Write", s.Write(i, "b"), api.ErrArg)
				is(t, "Write of too much", s.Write(i, long), api.ErrArg)
				is(t, "Swap with itself", s.Swap(i, i), api.ErrArg)
				is(t, "Swap", s.Swap(i, 0), api.ErrArg)
				if b, e := s.Read(i); b != "" || e != api.ErrArg {
					t.Errorf("Read(%d) of %d pages = %q, %d; want ErrArg", i, n, b, e)
				}
			}
			is(t, "Swap with none", all.Swap(0, i), api.ErrArg)
			is(t, "Swap of a free one with none", none.Swap(0, i), api.ErrNone)
		}
		for _, i := range []int{0, n - 1} {
			is(t, "Give", none.Give(i), api.ErrNone)
			is(t, "Write", none.Write(i, "b"), api.ErrNone)
			is(t, "Write of nothing", none.Write(i, ""), api.ErrNone)
			is(t, "Write of too much", none.Write(i, long), api.ErrNone)
			is(t, "Swap with itself", none.Swap(i, i), api.ErrNone)
			if b, e := none.Read(i); b != "" || e != api.ErrNone {
				t.Errorf("Read(%d) of a free page = %q, %d; want ErrNone", i, b, e)
			}
		}
		hold(t, none, noneModel)
		hold(t, all, allModel)
	}
}

// P12.3: a page has at most 252 bytes, at all lengths near to that and far beyond it; what is refused leaves the old bytes.
func TestLengths(t *testing.T) {
	s := taken(t, 2, "old", "other")
	for n := range 600 {
		b := strings.Repeat("z", n)
		if n <= room {
			writes(t, s, 0, b)
			reads(t, s, b, "other")
			continue
		}
		is(t, "Write of too much", s.Write(0, b), api.ErrBig)
		reads(t, s, strings.Repeat("z", room), "other")
	}
	is(t, "Write of very much", s.Write(1, strings.Repeat("z", 1<<24)), api.ErrBig)
	reads(t, s, strings.Repeat("z", room), "other")
	for _, b := range []string{"short", "", "a"} { // nothing of longer bytes is left
		writes(t, s, 0, b)
		reads(t, s, b, "other")
	}
}

// P12.3, P12.5: what is written is read, whichever bytes it is.
func TestEachByte(t *testing.T) {
	s := taken(t, 256)
	var want []string
	for i := range 256 {
		b := "\xff\x00" + string([]byte{byte(i)}) + "\x00"
		writes(t, s, i, b)
		want = append(want, b)
	}
	reads(t, s, want...)
}

// P12.5: a write changes no other page, wherever it is.
func TestEveryPage(t *testing.T) {
	n := 64
	s, m := taken(t, n), make(model, n)
	for i := range m {
		m[i].taken = true
	}
	for i := range n {
		at := i * 37 % n
		m[at].bytes = strings.Repeat("p", at) + "q"
		writes(t, s, at, m[at].bytes)
		hold(t, s, m)
	}
	last := taken(t, api.MaxPages)
	writes(t, last, api.MaxPages-1, "last")
	want := make([]string, api.MaxPages)
	want[api.MaxPages-1] = "last"
	reads(t, last, want...)
}

// P12.3: the errors of a swap: those of the first page ahead of those of the second one; nothing changes.
func TestSwapErrors(t *testing.T) {
	const right, other, free, none = 0, 1, 2, 3
	for _, x := range []struct {
		a, b int
		want api.Errno
	}{
		{free, none, api.ErrNone}, {none, free, api.ErrArg}, {free, -1, api.ErrNone}, {-1, free, api.ErrArg},
		{right, free, api.ErrNone}, {free, right, api.ErrNone}, {right, none, api.ErrArg}, {none, right, api.ErrArg},
		{other, -1, api.ErrArg}, {-1, other, api.ErrArg}, {free, free, api.ErrNone}, {none, none, api.ErrArg}, {-1, -1, api.ErrArg},
		{math.MinInt, math.MaxInt, api.ErrArg}, {right, math.MaxInt, api.ErrArg}, {math.MinInt, free, api.ErrArg},
	} {
		s := newShelf(t, 3)
		takes(t, s, right)
		takes(t, s, other)
		writes(t, s, right, "a")
		writes(t, s, other, "b")
		if e := s.Swap(x.a, x.b); e != x.want {
			t.Errorf("Swap(%d, %d) = %d; want %d", x.a, x.b, e, x.want)
		}
		hold(t, s, model{{true, "a"}, {true, "b"}, {}})
	}
}

// P12.3: a swap of each two pages: each has what the other one had; twice, all is as it was.
func TestSwap(t *testing.T) {
	was := []string{"a", "", strings.Repeat("c", room), "d", "", "a"}
	for a := range was {
		for b := range was {
			s, want := taken(t, len(was), was...), slices.Clone(was)
			is(t, "Swap", s.Swap(a, b), api.OK)
			want[a], want[b] = want[b], want[a]
			reads(t, s, want...)
			is(t, "Swap back", s.Swap(b, a), api.OK)
			reads(t, s, was...)
			is(t, "Swap", s.Swap(a, b), api.OK)
			writes(t, s, a, "new") // goes to that page alone
			want[a] = "new"
			reads(t, s, want...)
		}
	}
}

// P12.3, P12.5: pages that never had bytes, and one that was swapped and given back.
func TestSwapWithoutBytes(t *testing.T) {
	s := taken(t, 3, "a")
	is(t, "Swap", s.Swap(1, 2), api.OK)
	reads(t, s, "a", "", "")
	is(t, "Swap", s.Swap(0, 2), api.OK)
	reads(t, s, "", "", "a")
	is(t, "Give(0)", s.Give(0), api.OK)
	is(t, "Give(2)", s.Give(2), api.OK)
	takes(t, s, 0)
	takes(t, s, 2)
	reads(t, s, "", "", "")
}

// P12.5: a page that is taken anew has no bytes, by Take and by TakeAt; while it is free it is not read.
func TestTakenAnew(t *testing.T) {
	for _, b := range []string{"a", "", strings.Repeat("z", room)} {
		s := taken(t, 3, "x", b, "y")
		for range 3 {
			is(t, "Give(1)", s.Give(1), api.OK)
			if got, e := s.Read(1); got != "" || e != api.ErrNone {
				t.Errorf("Read of a free page = %q, %d; want ErrNone", got, e)
			}
			other := s.Copy()
			takes(t, s, 1)
			reads(t, s, "x", "", "y")
			is(t, "TakeAt(1) of a copy", other.TakeAt(1), api.OK)
			reads(t, other, "x", "", "y")
			writes(t, s, 1, b)
		}
		is(t, "Give(0)", s.Give(0), api.OK)
		if got, e := s.Read(1); got != b || e != api.OK { // the others keep what they have
			t.Errorf("Read(1) = %q, %d; want %q", got, e, b)
		}
	}
}

// P12.4: Taken rises, in whatever order pages were taken; Run and Free go with it.
func TestTaken(t *testing.T) {
	s := newShelf(t, 10)
	for i, at := range []int{9, 0, 4, 2, 7} {
		is(t, "TakeAt", s.TakeAt(at), api.OK)
		if s.Free() != 9-i {
			t.Errorf("Free() = %d; want %d", s.Free(), 9-i)
		}
	}
	if got := s.Taken(); !slices.Equal(got, []int{0, 2, 4, 7, 9}) {
		t.Errorf("Taken() = %v", got)
	}
	for _, x := range []struct {
		n, at int
		is    bool
	}{{math.MinInt, 0, false}, {-1, 0, false}, {0, 0, false}, {1, 1, true}, {2, 5, true}, {3, 0, false}, {10, 0, false}, {math.MaxInt, 0, false}} {
		if at, is := s.Run(x.n); at != x.at || is != x.is {
			t.Errorf("Run(%d) = %d, %v; want %d, %v", x.n, at, is, x.at, x.is)
		}
	}
	is(t, "Give(7)", s.Give(7), api.OK)
	if at, is := s.Run(4); at != 5 || !is || s.Free() != 6 || !slices.Equal(s.Taken(), []int{0, 2, 4, 9}) {
		t.Errorf("Run(4) = %d, %v; Free() = %d; Taken() = %v", at, is, s.Free(), s.Taken())
	}
}

// P12.4: what Run tells is not taken by that: it tells it again, and Take begins there.
func TestRunTakesNothing(t *testing.T) {
	s := newShelf(t, 6)
	takes(t, s, 0)
	for range 2 {
		if at, is := s.Run(5); at != 1 || !is {
			t.Errorf("Run(5) = %d, %v; want 1", at, is)
		}
	}
	hold(t, s, model{{true, ""}, {}, {}, {}, {}, {}})
	takes(t, s, 1)
}

// P12.4, R7: a copy tells what its original tells, and each goes its own way from then on.
func TestCopy(t *testing.T) {
	for _, call := range []call{{name: "Take"}, {name: "TakeAt", a: 3}, {name: "Give", a: 0}, {name: "Write", a: 0, bytes: "new"}, {name: "Write", a: 1, bytes: "new"}, {name: "Swap", a: 0, b: 1}} {
		s := newShelf(t, 4)
		was := model{{true, "a"}, {true, ""}, {}, {}}
		takes(t, s, 0)
		takes(t, s, 1)
		writes(t, s, 0, "a")
		c := s.Copy()
		cc := c.Copy()
		hold(t, c, was)
		changed := slices.Clone(was)
		act(t, call, s, changed)
		hold(t, s, changed)
		hold(t, c, was)
		other := slices.Clone(was)
		act(t, call, cc, other)
		hold(t, cc, changed)
		hold(t, c, was)
		hold(t, s, changed)
	}
	empty := newShelf(t, 1)
	c := empty.Copy()
	takes(t, c, 0)
	writes(t, c, 0, "a")
	hold(t, empty, model{{}})
	hold(t, c, model{{true, "a"}})
}

// R4: what is handed in is not kept.
func TestHandedIn(t *testing.T) {
	s := taken(t, 2)
	b := []byte("abcdef")
	writes(t, s, 0, unsafe.String(&b[0], 4))
	writes(t, s, 1, unsafe.String(&b[4], 0))
	is(t, "Swap", s.Swap(0, 1), api.OK)
	c := s.Copy()
	if string(b) != "abcdef" {
		t.Errorf("what was handed in became %q", b)
	}
	for i := range b {
		b[i] = 'z'
	}
	reads(t, s, "", "abcd")
	reads(t, c, "", "abcd")
}

// R4: what is answered is new memory: nothing that is done to it, or to the shelf behind it, shows elsewhere.
func TestAnswered(t *testing.T) {
	s := taken(t, 5, "a", "b")
	first, second := s.Taken(), s.Taken()
	all := first[:cap(first)]
	for i := range all {
		all[i] = 99
	}
	if want := []int{0, 1, 2, 3, 4}; !slices.Equal(second, want) || !slices.Equal(s.Taken(), want) {
		t.Errorf("Taken() = %v, then %v; want %v", second, s.Taken(), want)
	}
	read, _ := s.Read(0)
	again, _ := s.Read(0)
	copied, _ := s.Copy().Read(0)
	if unsafe.StringData(read) == unsafe.StringData(again) || unsafe.StringData(read) == unsafe.StringData(copied) {
		t.Error("bytes are shared")
	}
	writes(t, s, 0, "c")
	is(t, "Swap", s.Swap(0, 1), api.OK)
	is(t, "Give(1)", s.Give(1), api.OK)
	if read != "a" || again != "a" || !slices.Equal(second, []int{0, 1, 2, 3, 4}) {
		t.Errorf("what was answered changed: %q, %q, %v", read, again, second)
	}
}
