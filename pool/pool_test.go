package pool_test

import (
	"fmt"
	"math/rand"
	"slices"
	"strings"
	"testing"
	"unsafe"

	"budwood/api"
	"budwood/disk"
	"budwood/pool"
)

const bodySize = 252 // bytes of a page

// page is a text with bytes 0 behind it.
func page(s string) string { return s + strings.Repeat("\x00", bodySize-len(s)) }

func newDisk(t *testing.T, pages int) *disk.Disk {
	t.Helper()
	d, e := disk.New(pages)
	if e != api.OK {
		t.Fatalf("disk.New(%d) = %d", pages, e)
	}
	return d
}

// numbered is a disk on each of whose pages its number stands, synced.
func numbered(t *testing.T, pages int) *disk.Disk {
	t.Helper()
	d := newDisk(t, pages)
	for i := range pages {
		if e := d.Write(i, fmt.Sprint("page ", i)); e != api.OK {
			t.Fatalf("disk.Write(%d) = %d", i, e)
		}
	}
	d.Sync()
	return d
}

// tear makes a page one that cannot be read.
func tear(t *testing.T, d *disk.Disk, page int) {
	t.Helper()
	d.Sync()
	d.Write(page, "torn")
	d.Crash([]int{disk.Torn})
	if _, e := d.Read(page); e != api.ErrSum {
		t.Fatalf("Read(%d) of a torn page = %d", page, e)
	}
}

func newPool(t *testing.T, d *disk.Disk, places int) *pool.Pool {
	t.Helper()
	p, e := pool.New(d, places)
	if e != api.OK || p == nil {
		t.Fatalf("New with %d places = %v, %d", places, p, e)
	}
	return p
}

// pins holds pages, which must go.
func pins(t *testing.T, p *pool.Pool, pages ...int) {
	t.Helper()
	for _, i := range pages {
		if s, e := p.Pin(i); len(s) != bodySize || e != api.OK {
			t.Fatalf("Pin(%d) = %d bytes, %d", i, len(s), e)
		}
	}
}

func unpins(t *testing.T, p *pool.Pool, pages ...int) {
	t.Helper()
	for _, i := range pages {
		if e := p.Unpin(i); e != api.OK {
			t.Fatalf("Unpin(%d) = %d", i, e)
		}
	}
}

func puts(t *testing.T, p *pool.Pool, page int, s string, lsn int) {
	t.Helper()
	if e := p.Put(page, s, lsn); e != api.OK {
		t.Fatalf("Put(%d, %q, %d) = %d", page, s, lsn, e)
	}
}

// state is all that a pool tells, and all that its disk does.
type state struct {
	pages, dirty []int
	held         []int
	least        int
	is           bool
	writes       []int
	raw          []string
}

func stateOf(p *pool.Pool, d *disk.Disk) state {
	s := state{pages: p.Pages(), dirty: p.Dirty(), writes: d.Dirty()}
	s.least, s.is = p.Least()
	for i := range d.Len() {
		s.held = append(s.held, p.Pins(i))
		s.raw = append(s.raw, d.Raw(i))
	}
	return s
}

func (a state) String() string {
	return fmt.Sprintf("pages %v, dirty %v, held %v, least %d %v, writes %v", a.pages, a.dirty, a.held, a.least, a.is, a.writes)
}

func same(a, b state) bool {
	return slices.Equal(a.pages, b.pages) && slices.Equal(a.dirty, b.dirty) && slices.Equal(a.held, b.held) &&
		a.least == b.least && a.is == b.is && slices.Equal(a.writes, b.writes) && slices.Equal(a.raw, b.raw)
}

// refused tells of a call that answers an error, and must change nothing.
func refused(t *testing.T, p *pool.Pool, d *disk.Disk, what string, want api.Errno, call func() api.Errno) {
	t.Helper()
	was := stateOf(p, d)
	if e := call(); e != want {
		t.Errorf("%s = %d; want %d", what, e, want)
	}
	if is := stateOf(p, d); !same(was, is) {
		t.Errorf("%s has changed %v into %v", what, was, is)
	}
}

// pinRefused is refused for a Pin, whose bytes must be none.
func pinRefused(t *testing.T, p *pool.Pool, d *disk.Disk, page int, want api.Errno) {
	t.Helper()
	refused(t, p, d, fmt.Sprintf("Pin(%d)", page), want, func() api.Errno {
		s, e := p.Pin(page)
		if s != "" {
			t.Errorf("Pin(%d) = %q beside %d", page, s, e)
		}
		return e
	})
}

func putRefused(t *testing.T, p *pool.Pool, d *disk.Disk, page int, s string, lsn int, want api.Errno) {
	t.Helper()
	refused(t, p, d, fmt.Sprintf("Put(%d, %d bytes, %d)", page, len(s), lsn), want, func() api.Errno { return p.Put(page, s, lsn) })
}

func unpinRefused(t *testing.T, p *pool.Pool, d *disk.Disk, page int, want api.Errno) {
	t.Helper()
	refused(t, p, d, fmt.Sprintf("Unpin(%d)", page), want, func() api.Errno { return p.Unpin(page) })
}

func holds(t *testing.T, p *pool.Pool, want ...int) {
	t.Helper()
	if got := p.Pages(); !slices.Equal(got, want) {
		t.Errorf("Pages() = %v; want %v", got, want)
	}
}

func dirties(t *testing.T, p *pool.Pool, want ...int) {
	t.Helper()
	if got := p.Dirty(); !slices.Equal(got, want) {
		t.Errorf("Dirty() = %v; want %v", got, want)
	}
}

// leasts holds Least against a number; 0 is none.
func leasts(t *testing.T, p *pool.Pool, want int) {
	t.Helper()
	if n, is := p.Least(); n != want || is != (want > 0) {
		t.Errorf("Least() = %d, %v; want %d", n, is, want)
	}
}

// written holds the disk's writes that were not synced against pages.
func written(t *testing.T, d *disk.Disk, want ...int) {
	t.Helper()
	if got := d.Dirty(); !slices.Equal(got, want) {
		t.Errorf("the disk's writes = %v; want %v", got, want)
	}
}

func reads(t *testing.T, d *disk.Disk, page int, want string) {
	t.Helper()
	if got, e := d.Read(page); got != want || e != api.OK {
		t.Errorf("disk.Read(%d) = %q, %d; want %q", page, got, e, want)
	}
}

func pinned(t *testing.T, p *pool.Pool, page int, want string) {
	t.Helper()
	if got, e := p.Pin(page); got != want || e != api.OK {
		t.Errorf("Pin(%d) = %q, %d; want %q", page, got, e, want)
	}
}

// P7.1: 1 to 64 places, and no others; the pool is empty.
func TestNew(t *testing.T) {
	d := newDisk(t, 66)
	for _, places := range []int{0, -1, 65, 66, -1 << 63, 1<<63 - 1} {
		if p, e := pool.New(d, places); p != nil || e != api.ErrArg {
			t.Errorf("New with %d places = %v, %d", places, p, e)
		}
	}
	for _, places := range []int{1, 2, 63, 64} {
		p := newPool(t, d, places)
		holds(t, p)
		dirties(t, p)
		leasts(t, p, 0)
		if n := p.Clean(); n != 0 {
			t.Errorf("Clean() of an empty pool = %d", n)
		}
		for i := range places {
			pins(t, p, i)
		}
		pinRefused(t, p, d, places, api.ErrFull)
		if n := len(p.Pages()); n != places {
			t.Errorf("%d pages in %d places", n, places)
		}
	}
	written(t, d)
}

// P7.1: the number that is sure is 0, so that no page that was put may be written.
func TestNothingIsSureAtFirst(t *testing.T) {
	d := newDisk(t, 2)
	p := newPool(t, d, 1)
	pins(t, p, 0)
	puts(t, p, 0, "a", 1)
	unpins(t, p, 0)
	pinRefused(t, p, d, 1, api.ErrFull)
	if n := p.Clean(); n != 0 {
		t.Errorf("Clean() = %d", n)
	}
	dirties(t, p, 0)
	written(t, d)
}

// P7.1: two pools of one disk know nothing of one another.
func TestPoolsApart(t *testing.T) {
	d := numbered(t, 3)
	a, b := newPool(t, d, 1), newPool(t, d, 2)
	pins(t, a, 0)
	a.Sure(9)
	holds(t, b)
	pins(t, b, 0)
	puts(t, b, 0, "b", 9)
	if n := b.Clean(); n != 0 {
		t.Errorf("Clean() = %d, by what another pool is sure of", n)
	}
	dirties(t, a)
	pinned(t, a, 0, page("page 0"))
}

// P7.2: a page that the disk has is pinned, and no other one.
func TestPinPages(t *testing.T) {
	d := numbered(t, 5)
	p := newPool(t, d, 8)
	for _, i := range []int{5, 6, 1024, 1 << 40, 1<<63 - 1, -1, -2, -1 << 63} {
		pinRefused(t, p, d, i, api.ErrArg)
		unpinRefused(t, p, d, i, api.ErrNone)
		putRefused(t, p, d, i, "x", 1, api.ErrNone)
		if n := p.Pins(i); n != 0 {
			t.Errorf("Pins(%d) = %d", i, n)
		}
	}
	for i := range 5 {
		pinned(t, p, i, page(fmt.Sprint("page ", i)))
		if n := p.Pins(i); n != 1 {
			t.Errorf("Pins(%d) = %d", i, n)
		}
	}
	holds(t, p, 0, 1, 2, 3, 4)
	dirties(t, p)
	written(t, d)
}

// P7.2, R2: a page that the disk has not is told ahead of a full pool.
func TestPinArgFirst(t *testing.T) {
	d := numbered(t, 2)
	p := newPool(t, d, 1)
	pins(t, p, 0)
	for _, i := range []int{-1, 2} {
		pinRefused(t, p, d, i, api.ErrArg)
	}
	pinRefused(t, p, d, 1, api.ErrFull)
}

// P7.2: a page that is in the pool is held once more, whether somebody holds it or not, and its bytes are those in memory.
func TestPinAgain(t *testing.T) {
	d := numbered(t, 3)
	p := newPool(t, d, 1)
	pins(t, p, 1)
	d.Write(1, "another one")
	pinned(t, p, 1, page("page 1")) // while it is held
	if n := p.Pins(1); n != 2 {
		t.Errorf("Pins(1) = %d", n)
	}
	unpins(t, p, 1, 1)
	pinned(t, p, 1, page("page 1")) // while it is not
	if n := p.Pins(1); n != 1 {
		t.Errorf("Pins(1) = %d", n)
	}
	tear(t, d, 1)
	pinned(t, p, 1, page("page 1")) // also if the disk could read it no more
	unpins(t, p, 1, 1)
	pins(t, p, 0)
	unpins(t, p, 0)
	pinRefused(t, p, d, 1, api.ErrSum)
}

// P7.2: Unpin lets go as often as the page was pinned, and no more.
func TestUnpin(t *testing.T) {
	d := numbered(t, 3)
	p := newPool(t, d, 2)
	unpinRefused(t, p, d, 0, api.ErrNone)
	pins(t, p, 0, 0, 0, 1)
	for left := 2; left >= 0; left-- {
		unpins(t, p, 0)
		if n := p.Pins(0); n != left {
			t.Errorf("Pins(0) = %d; want %d", n, left)
		}
	}
	unpinRefused(t, p, d, 0, api.ErrState)
	unpinRefused(t, p, d, 2, api.ErrNone)
	holds(t, p, 0, 1)
	if n := p.Pins(1); n != 1 {
		t.Errorf("Pins(1) = %d", n)
	}
	pins(t, p, 2) // 0 goes
	unpinRefused(t, p, d, 0, api.ErrNone)
}

// P7.2, R2: what disk.Read tells comes ahead of a full pool, and no page goes for one that cannot be read.
func TestPinReadError(t *testing.T) {
	d := numbered(t, 4)
	tear(t, d, 3)
	p := newPool(t, d, 2)
	pinRefused(t, p, d, 3, api.ErrSum) // all places free
	pins(t, p, 0)
	pinRefused(t, p, d, 3, api.ErrSum) // one free
	pins(t, p, 1)
	pinRefused(t, p, d, 3, api.ErrSum) // none free, and none that could be
	puts(t, p, 0, "a", 1)
	p.Sure(1)
	unpins(t, p, 0, 1)
	pinRefused(t, p, d, 3, api.ErrSum) // none free, two that could be
	holds(t, p, 0, 1)
	dirties(t, p, 0)
	written(t, d)
	d.Write(3, "mended")
	pinned(t, p, 3, page("mended"))
	holds(t, p, 1, 3)
}

// P7.2: which page goes, if any, by what they are.
func TestWhichGoes(t *testing.T) {
	const (
		held      = "held"
		heldDirty = "held, dirty, sure"
		ahead     = "dirty, not sure"
		just      = "dirty, just sure"
		clean     = "clean"
	)
	for _, x := range []struct {
		have  []string // page i, pinned in this order
		gone  int      // -1: none
		wrote bool
	}{
		{[]string{held}, -1, false},
		{[]string{heldDirty}, -1, false},
		{[]string{ahead}, -1, false},
		{[]string{just}, 0, true},
		{[]string{clean}, 0, false},
		{[]string{held, held, held}, -1, false},
		{[]string{held, ahead, heldDirty}, -1, false},
		{[]string{held, ahead, clean}, 2, false},
		{[]string{held, ahead, just}, 2, true},
		{[]string{ahead, clean, just}, 1, false},
		{[]string{ahead, just, clean}, 1, true},
		{[]string{clean, just, just}, 0, false},
		{[]string{just, clean, clean}, 0, true},
		{[]string{heldDirty, ahead, ahead, just, clean}, 3, true},
		{[]string{heldDirty, ahead, ahead, clean, just}, 3, false},
	} {
		n := len(x.have)
		d := numbered(t, n+1)
		p := newPool(t, d, n)
		for i, what := range x.have {
			pins(t, p, i)
			switch what {
			case heldDirty, just:
				puts(t, p, i, "put", 7)
			case ahead:
				puts(t, p, i, "put", 8)
			}
			if what != held && what != heldDirty {
				unpins(t, p, i)
			}
		}
		p.Sure(7)
		written(t, d)
		if x.gone < 0 {
			pinRefused(t, p, d, n, api.ErrFull)
			continue
		}
		pinned(t, p, n, page(fmt.Sprint("page ", n)))
		var want []int
		for i := range n + 1 {
			if i != x.gone {
				want = append(want, i)
			}
		}
		holds(t, p, want...)
		if p.Pins(n) != 1 || p.Pins(x.gone) != 0 {
			t.Errorf("%v: held %d, %d times", x.have, p.Pins(n), p.Pins(x.gone))
		}
		if x.wrote {
			written(t, d, x.gone)
			reads(t, d, x.gone, page("put"))
		} else {
			written(t, d)
			reads(t, d, x.gone, page(fmt.Sprint("page ", x.gone)))
		}
	}
}

// P7.2: of pages that may go the first one is that which was pinned longest ago: not by its number, not by when it came, was let go, or was put.
func TestAges(t *testing.T) {
	for i, x := range []struct {
		pins []int // each let go again behind the row
		want []int // in this order pages go
	}{
		{[]int{0, 1, 2, 3}, []int{0, 1, 2, 3}},
		{[]int{3, 2, 1, 0}, []int{3, 2, 1, 0}},
		{[]int{2, 0, 3, 1}, []int{2, 0, 3, 1}},
		{[]int{0, 1, 2, 3, 0}, []int{1, 2, 3, 0}},
		{[]int{0, 1, 2, 3, 1, 0, 2}, []int{3, 1, 0, 2}},
		{[]int{0, 0, 0, 1, 2, 3}, []int{0, 1, 2, 3}},
		{[]int{0, 1, 2, 3, 3, 2, 1, 0}, []int{3, 2, 1, 0}},
	} {
		for _, atOnce := range []bool{true, false} { // pinned again while it is not held, or while it is
			d := numbered(t, 8)
			p := newPool(t, d, 4)
			for _, page := range x.pins {
				pins(t, p, page)
				if atOnce {
					unpins(t, p, page)
				}
			}
			p.Sure(100)
			if !atOnce {
				for n, page := range slices.Sorted(slices.Values(x.pins)) {
					puts(t, p, page, "put", n+1)
					unpins(t, p, page)
				}
			}
			have := []int{0, 1, 2, 3}
			for n, gone := range x.want {
				pins(t, p, 4+n)
				have = slices.DeleteFunc(append(have, 4+n), func(page int) bool { return page == gone })
				if !slices.Equal(p.Pages(), have) {
					t.Fatalf("row %d, %v: behind %d more Pages() = %v; want %v", i, atOnce, n+1, p.Pages(), have)
				}
			}
			if !atOnce {
				written(t, d, x.want...)
			}
		}
	}
}

// P7.2: a Pin that answers an error makes no page younger, nor does Unpin.
func TestAgesBehindErrors(t *testing.T) {
	d := numbered(t, 4)
	p := newPool(t, d, 2)
	pins(t, p, 0, 1)
	pinRefused(t, p, d, 2, api.ErrFull)
	unpins(t, p, 1, 0) // 0 is let go last
	pinRefused(t, p, d, 4, api.ErrArg)
	unpinRefused(t, p, d, 0, api.ErrState)
	pins(t, p, 2)
	holds(t, p, 1, 2)
}

// P7.3: a page has what was put, and bytes 0 behind it.
func TestPut(t *testing.T) {
	d := numbered(t, 2)
	p := newPool(t, d, 1)
	pins(t, p, 0)
	full := strings.Repeat("x", bodySize)
	for i, s := range []string{"a", full, "", "\x00b", full[1:], full, "ab"} {
		puts(t, p, 0, s, i+1)
		pinned(t, p, 0, page(s))
		dirties(t, p, 0)
		leasts(t, p, 1)
	}
	putRefused(t, p, d, 0, full+"x", 100, api.ErrBig)
	putRefused(t, p, d, 0, strings.Repeat("x", 100000), 100, api.ErrBig)
	pinned(t, p, 0, page("ab"))
	reads(t, d, 0, page("page 0"))
	written(t, d)
}

// P7.3: a page is put that is in the pool, and held, alone; which error comes first (R2).
func TestPutErrors(t *testing.T) {
	d := numbered(t, 3)
	p := newPool(t, d, 2)
	big := strings.Repeat("x", bodySize+1)
	pins(t, p, 0, 1)
	puts(t, p, 1, "b", 5)
	unpins(t, p, 0)
	for _, s := range []string{"x", big} {
		for _, lsn := range []int{0, 9} {
			putRefused(t, p, d, 2, s, lsn, api.ErrNone)
			putRefused(t, p, d, -1, s, lsn, api.ErrNone)
			putRefused(t, p, d, 3, s, lsn, api.ErrNone)
			putRefused(t, p, d, 0, s, lsn, api.ErrState)
		}
	}
	for _, lsn := range []int{-1, 0, 4, 5, 6} {
		putRefused(t, p, d, 1, big, lsn, api.ErrBig)
	}
	for _, lsn := range []int{-1 << 63, -1, 0, 1, 4} {
		putRefused(t, p, d, 1, "x", lsn, api.ErrArg)
	}
	pinned(t, p, 1, page("b"))
	pins(t, p, 0)
	putRefused(t, p, d, 0, "x", 0, api.ErrArg)
	putRefused(t, p, d, 0, "x", -3, api.ErrArg)
	pinned(t, p, 0, page("page 0"))
	dirties(t, p, 1)
}

// P7.3: an lsn is at least the page's last number, which stays while the page does, also behind a Clean, and is 0 when it comes again.
func TestPutNumbers(t *testing.T) {
	d := numbered(t, 2)
	p := newPool(t, d, 1)
	pins(t, p, 0)
	puts(t, p, 0, "a", 5)
	putRefused(t, p, d, 0, "b", 4, api.ErrArg)
	puts(t, p, 0, "b", 5)
	puts(t, p, 0, "c", 7)
	putRefused(t, p, d, 0, "d", 6, api.ErrArg)
	leasts(t, p, 5)
	p.Sure(7)
	if n := p.Clean(); n != 1 {
		t.Errorf("Clean() = %d", n)
	}
	putRefused(t, p, d, 0, "d", 6, api.ErrArg)
	unpins(t, p, 0)
	pins(t, p, 0)
	putRefused(t, p, d, 0, "d", 6, api.ErrArg)
	leasts(t, p, 0)
	puts(t, p, 0, "d", 7)
	leasts(t, p, 7)
	unpins(t, p, 0)
	pins(t, p, 1)
	puts(t, p, 1, "e", 1) // another page has numbers of its own
	unpins(t, p, 1)
	pinned(t, p, 0, page("d"))
	dirties(t, p)
	leasts(t, p, 0)
	puts(t, p, 0, "f", 1)
	leasts(t, p, 1)
	puts(t, p, 0, "g", 1<<63-1)
	leasts(t, p, 1)
}

// P7.3: the number that is sure grows alone.
func TestSure(t *testing.T) {
	for _, x := range []struct {
		sure []int
		last int
		may  bool
	}{
		{nil, 1, false},
		{[]int{0}, 1, false},
		{[]int{-5}, 1, false},
		{[]int{1}, 1, true},
		{[]int{4}, 5, false},
		{[]int{5}, 5, true},
		{[]int{6}, 5, true},
		{[]int{5, 4}, 5, true},
		{[]int{5, 0}, 5, true},
		{[]int{5, -1 << 63}, 5, true},
		{[]int{5, 5}, 5, true},
		{[]int{5, 5}, 6, false},
		{[]int{4, 6, 3}, 6, true},
		{[]int{4, 6, 3}, 7, false},
		{[]int{1<<63 - 1, 1}, 1<<63 - 1, true},
	} {
		for _, goes := range []bool{true, false} {
			d := numbered(t, 2)
			p := newPool(t, d, 1)
			pins(t, p, 0)
			puts(t, p, 0, "a", 1)
			puts(t, p, 0, "b", x.last) // the last number is what counts, not the first one
			unpins(t, p, 0)
			for _, lsn := range x.sure {
				p.Sure(lsn)
			}
			written(t, d) // Sure writes nothing
			dirties(t, p, 0)
			switch {
			case goes && x.may:
				pins(t, p, 1)
				written(t, d, 0)
			case goes:
				pinRefused(t, p, d, 1, api.ErrFull)
			default:
				want := 0
				if x.may {
					want = 1
				}
				if n := p.Clean(); n != want || len(d.Dirty()) != want {
					t.Errorf("sure %v, last %d: Clean() = %d, writes %v", x.sure, x.last, n, d.Dirty())
				}
			}
		}
	}
}

// P7.3: what was sure ahead of a Put is so behind it.
func TestSureAhead(t *testing.T) {
	d := numbered(t, 3)
	p := newPool(t, d, 2)
	p.Sure(5)
	pins(t, p, 0, 1)
	puts(t, p, 0, "a", 5)
	puts(t, p, 1, "b", 6)
	if n := p.Clean(); n != 1 {
		t.Errorf("Clean() = %d", n)
	}
	written(t, d, 0)
	dirties(t, p, 1)
}

// P7.4: Clean writes all pages that may be, by rising pages, held or not, and no others; they stay, and so does how often they are held.
func TestClean(t *testing.T) {
	d := numbered(t, 8)
	p := newPool(t, d, 8)
	pins(t, p, 6, 2, 4, 0, 5, 3, 1)
	for i, lsn := range map[int]int{6: 3, 2: 5, 4: 6, 0: 5, 5: 9} {
		puts(t, p, i, fmt.Sprint("put ", i), lsn)
	}
	unpins(t, p, 2, 5, 3)
	if n := p.Clean(); n != 0 {
		t.Errorf("Clean() with nothing sure = %d", n)
	}
	p.Sure(5)
	if n := p.Clean(); n != 3 {
		t.Errorf("Clean() = %d", n)
	}
	written(t, d, 0, 2, 6)
	dirties(t, p, 4, 5)
	leasts(t, p, 6)
	holds(t, p, 0, 1, 2, 3, 4, 5, 6)
	for i, n := range []int{1, 1, 0, 0, 1, 0, 1, 0} {
		if p.Pins(i) != n {
			t.Errorf("Pins(%d) = %d; want %d", i, p.Pins(i), n)
		}
	}
	for _, i := range []int{0, 2, 6} {
		reads(t, d, i, page(fmt.Sprint("put ", i)))
		pinned(t, p, i, page(fmt.Sprint("put ", i)))
	}
	for _, i := range []int{4, 5} {
		reads(t, d, i, page(fmt.Sprint("page ", i)))
		pinned(t, p, i, page(fmt.Sprint("put ", i)))
	}
	if n := p.Clean(); n != 0 {
		t.Errorf("Clean() once more = %d", n)
	}
	written(t, d, 0, 2, 6)
	p.Sure(9)
	if n := p.Clean(); n != 2 {
		t.Errorf("Clean() = %d", n)
	}
	written(t, d, 0, 2, 6, 4, 5)
	dirties(t, p)
	leasts(t, p, 0)
}

// P7.4: Clean syncs nothing: a crash may lose what it wrote, and the pool has it still.
func TestCleanIsNoSync(t *testing.T) {
	d := numbered(t, 1)
	p := newPool(t, d, 1)
	pins(t, p, 0)
	puts(t, p, 0, "a", 1)
	p.Sure(1)
	p.Clean()
	d.Crash(nil)
	reads(t, d, 0, page("page 0"))
	pinned(t, p, 0, page("a"))
	dirties(t, p)
}

// P7.4: Clean makes no page younger; what is clean goes without being written again.
func TestCleanAges(t *testing.T) {
	d := numbered(t, 4)
	p := newPool(t, d, 2)
	pins(t, p, 1, 0)
	puts(t, p, 1, "b", 1)
	puts(t, p, 0, "a", 2)
	unpins(t, p, 0, 1)
	p.Sure(2)
	p.Clean()
	written(t, d, 0, 1)
	pins(t, p, 2)
	holds(t, p, 0, 2)
	pins(t, p, 3)
	holds(t, p, 2, 3)
	written(t, d, 0, 1)
}

// P7.5: Least is the least first number of all dirty pages.
func TestLeast(t *testing.T) {
	d := numbered(t, 6)
	p := newPool(t, d, 5)
	leasts(t, p, 0)
	pins(t, p, 0, 1, 2, 3, 4)
	leasts(t, p, 0)
	puts(t, p, 3, "a", 7)
	leasts(t, p, 7)
	puts(t, p, 3, "b", 20)
	leasts(t, p, 7)
	puts(t, p, 1, "c", 9)
	leasts(t, p, 7)
	puts(t, p, 4, "d", 2)
	leasts(t, p, 2)
	puts(t, p, 2, "e", 2)
	leasts(t, p, 2)
	p.Sure(2)
	p.Clean()
	leasts(t, p, 7)
	p.Sure(9)
	p.Clean() // 3 has a last number that is not sure
	leasts(t, p, 7)
	puts(t, p, 1, "f", 10)
	leasts(t, p, 7)
	p.Sure(20)
	unpins(t, p, 3)
	pins(t, p, 5) // 3 goes
	leasts(t, p, 10)
	p.Clean()
	leasts(t, p, 0)
}

// P7.6, the chapter's example: a page goes only when the records that changed it are sure.
func TestExample(t *testing.T) {
	d := newDisk(t, 2)
	p := newPool(t, d, 1)
	pins(t, p, 0)
	puts(t, p, 0, "a", 5)
	unpins(t, p, 0)
	pinRefused(t, p, d, 1, api.ErrFull)
	p.Sure(4)
	pinRefused(t, p, d, 1, api.ErrFull)
	written(t, d)
	p.Sure(5)
	pinned(t, p, 1, page(""))
	written(t, d, 0)
	unpins(t, p, 1)
	pinned(t, p, 0, page("a"))
}

// P7.6: a page that is held stays, however many others come and go.
func TestHeldStays(t *testing.T) {
	d := numbered(t, 40)
	p := newPool(t, d, 3)
	pins(t, p, 7, 9)
	puts(t, p, 9, "nine", 1)
	p.Sure(1)
	for i := 10; i < 40; i++ {
		pinned(t, p, i, page(fmt.Sprint("page ", i)))
		unpins(t, p, i)
		holds(t, p, 7, 9, i)
		pinRefused(t, p, d, -1, api.ErrArg)
	}
	written(t, d)
	pinned(t, p, 7, page("page 7"))
	pinned(t, p, 9, page("nine"))
}

// R4: what is handed in is not kept, and what is answered is new memory each time.
func TestMemory(t *testing.T) {
	d := newDisk(t, 4)
	p := newPool(t, d, 4)
	pins(t, p, 0, 1, 2, 3)
	for i, n := range []int{0, 3, 251, 252} {
		b := []byte(strings.Repeat("x", n))
		puts(t, p, i, unsafe.String(unsafe.SliceData(b), n), 1)
		for at := range b {
			b[at] = 'y'
		}
		a, _ := p.Pin(i)
		if a != page(strings.Repeat("x", n)) {
			t.Errorf("a text of %d bytes was kept", n)
		}
		other, _ := p.Pin(i)
		if unsafe.StringData(a) == unsafe.StringData(other) {
			t.Errorf("Pin(%d) is the same memory twice", i)
		}
	}
	for what, call := range map[string]func() []int{"Pages": p.Pages, "Dirty": p.Dirty} {
		all := call()
		for i := range all[:cap(all)] {
			all[:cap(all)][i] = -1
		}
		if again := call(); !slices.Equal(again, []int{0, 1, 2, 3}) {
			t.Errorf("%s() behind a change of its answer = %v", what, again)
		}
	}
}

// model is a pool by the document's words, and what its disk has.
type model struct {
	places, sure int
	ages         []int // pages in the pool, those that were pinned longest ago first
	body         map[int]string
	held         map[int]int
	last, first  map[int]int // first: of dirty ones alone
	disk         []string
	torn         map[int]bool
	writes       []int
}

func newModel(pages, places int) *model {
	m := &model{places: places, body: map[int]string{}, held: map[int]int{}, last: map[int]int{}, first: map[int]int{}, torn: map[int]bool{}}
	for i := range pages {
		m.disk = append(m.disk, page(fmt.Sprint("page ", i)))
	}
	return m
}

func (m *model) mayBeWritten(page int) bool { return m.first[page] > 0 && m.last[page] <= m.sure }

func (m *model) write(page int) {
	m.disk[page] = m.body[page]
	m.torn[page] = false
	m.writes = append(m.writes, page)
	delete(m.first, page)
}

func (m *model) pin(page int) (string, api.Errno) {
	if page < 0 || page >= len(m.disk) {
		return "", api.ErrArg
	}
	at := slices.Index(m.ages, page)
	if at < 0 {
		if m.torn[page] {
			return "", api.ErrSum
		}
		if len(m.ages) == m.places {
			i := 0
			for i < len(m.ages) && (m.held[m.ages[i]] > 0 || m.first[m.ages[i]] > 0 && !m.mayBeWritten(m.ages[i])) {
				i++
			}
			if i == len(m.ages) {
				return "", api.ErrFull
			}
			gone := m.ages[i]
			if m.mayBeWritten(gone) {
				m.write(gone)
			}
			delete(m.last, gone)
			m.ages = slices.Delete(m.ages, i, i+1)
		}
		m.body[page] = m.disk[page]
	} else {
		m.ages = slices.Delete(m.ages, at, at+1)
	}
	m.ages = append(m.ages, page)
	m.held[page]++
	return m.body[page], api.OK
}

func (m *model) refuses(page int) api.Errno {
	switch {
	case !slices.Contains(m.ages, page):
		return api.ErrNone
	case m.held[page] == 0:
		return api.ErrState
	}
	return api.OK
}

func (m *model) unpin(page int) api.Errno {
	e := m.refuses(page)
	if e == api.OK {
		m.held[page]--
	}
	return e
}

func (m *model) put(at int, s string, lsn int) api.Errno {
	switch e := m.refuses(at); {
	case e != api.OK:
		return e
	case len(s) > bodySize:
		return api.ErrBig
	case lsn < 1 || lsn < m.last[at]:
		return api.ErrArg
	}
	m.body[at] = page(s)
	m.last[at] = lsn
	if m.first[at] == 0 {
		m.first[at] = lsn
	}
	return api.OK
}

func (m *model) clean() int {
	n := 0
	for page := range m.disk {
		if m.mayBeWritten(page) {
			m.write(page)
			n++
		}
	}
	return n
}

// check holds all that a pool and its disk tell against the model.
func (m *model) check(t *testing.T, p *pool.Pool, d *disk.Disk) {
	t.Helper()
	if all := slices.Sorted(slices.Values(m.ages)); !slices.Equal(p.Pages(), all) {
		t.Fatalf("Pages() = %v; want %v", p.Pages(), all)
	}
	var dirty []int
	least := 0
	for i := range m.disk {
		if n := m.first[i]; n > 0 {
			dirty = append(dirty, i)
			if least == 0 || n < least {
				least = n
			}
		}
		if p.Pins(i) != m.held[i] {
			t.Fatalf("Pins(%d) = %d; want %d", i, p.Pins(i), m.held[i])
		}
		s, e := d.Read(i)
		if m.torn[i] && e != api.ErrSum || !m.torn[i] && s != m.disk[i] {
			t.Fatalf("disk.Read(%d) = %q, %d; want %q", i, s, e, m.disk[i])
		}
	}
	if !slices.Equal(p.Dirty(), dirty) || !slices.Equal(d.Dirty(), m.writes) {
		t.Fatalf("Dirty() = %v; want %v; writes %v; want %v", p.Dirty(), dirty, d.Dirty(), m.writes)
	}
	if n, is := p.Least(); n != least || is != (least > 0) {
		t.Fatalf("Least() = %d, %v; want %d", n, is, least)
	}
}

// P7.1 to P7.5: rows of calls by chance, against the model.
func TestByChance(t *testing.T) {
	for seed := range int64(300) {
		r := rand.New(rand.NewSource(seed))
		pages, places := 1+r.Intn(9), 1+r.Intn(6)
		d := numbered(t, pages)
		p := newPool(t, d, places)
		m := newModel(pages, places)
		for n := range 150 {
			i := r.Intn(pages+2) - 1
			switch k := r.Intn(20); {
			case k < 6:
				got, e := p.Pin(i)
				if want, we := m.pin(i); got != want || e != we {
					t.Fatalf("seed %d, call %d: Pin(%d) = %q, %d; want %q, %d", seed, n, i, got, e, want, we)
				}
			case k < 11:
				if e, we := p.Unpin(i), m.unpin(i); e != we {
					t.Fatalf("seed %d, call %d: Unpin(%d) = %d; want %d", seed, n, i, e, we)
				}
			case k < 16:
				s, lsn := strings.Repeat(string(rune('a'+r.Intn(26))), r.Intn(2)*(1+r.Intn(bodySize+1))), m.last[i]-2+r.Intn(6)
				if e, we := p.Put(i, s, lsn), m.put(i, s, lsn); e != we {
					t.Fatalf("seed %d, call %d: Put(%d, %d bytes, %d) = %d; want %d", seed, n, i, len(s), lsn, e, we)
				}
			case k < 18:
				lsn := m.sure - 3 + r.Intn(7)
				p.Sure(lsn)
				m.sure = max(m.sure, lsn)
			case k < 19:
				if got, want := p.Clean(), m.clean(); got != want {
					t.Fatalf("seed %d, call %d: Clean() = %d; want %d", seed, n, got, want)
				}
			case i >= 0 && i < pages: // the disk's owner does something of his own
				if r.Intn(2) == 0 {
					d.Sync()
				} else {
					tear(t, d, i)
					m.torn[i] = true
				}
				m.writes = nil
			}
			m.check(t, p, d)
		}
	}
}

// P7.6: no page is on the disk ahead of a Sure that allows it; one that is held stays; what was put is pinned again.
func TestWhatFollows(t *testing.T) {
	for seed := range int64(200) {
		r := rand.New(rand.NewSource(seed))
		const pages = 8
		d := numbered(t, pages)
		p := newPool(t, d, 1+r.Intn(4))
		put := map[string]int{} // by text: its record's number
		latest := make([]string, pages)
		for i := range pages {
			latest[i] = page(fmt.Sprint("page ", i))
			put[latest[i]] = 0
		}
		held := make([]int, pages)
		lsn, sure := 0, 0
		for range 200 {
			i := r.Intn(pages)
			switch r.Intn(6) {
			case 0, 1:
				if s, e := p.Pin(i); e == api.OK {
					held[i]++
					if s != latest[i] {
						t.Fatalf("seed %d: Pin(%d) = %q; put was %q", seed, i, s, latest[i])
					}
				}
			case 2:
				if p.Unpin(i) == api.OK {
					held[i]--
				}
			case 3:
				lsn++
				s := fmt.Sprint("record ", lsn)
				if p.Put(i, s, lsn) == api.OK {
					latest[i] = page(s)
					put[latest[i]] = lsn
				}
			case 4:
				sure = min(lsn, sure+r.Intn(4))
				p.Sure(sure)
			case 5:
				p.Clean()
			}
			for i := range pages {
				s, e := d.Read(i)
				if n, is := put[s]; !is || n > sure || e != api.OK {
					t.Fatalf("seed %d: page %d has what record %d put, and %d is sure", seed, i, n, sure)
				}
				if held[i] > 0 && !slices.Contains(p.Pages(), i) {
					t.Fatalf("seed %d: page %d is held, and gone", seed, i)
				}
			}
		}
		p.Sure(lsn)
		p.Clean()
		for i := range pages {
			reads(t, d, i, latest[i])
		}
	}
}

// R5: a row of calls tells the same each time, whatever order a map has.
func TestSameAgain(t *testing.T) {
	run := func() string {
		var b strings.Builder
		d := numbered(t, 100)
		p := newPool(t, d, 64)
		r := rand.New(rand.NewSource(7))
		for range 400 {
			i := r.Intn(100)
			p.Pin(i)
			p.Put(i, "x", 1)
			p.Unpin(i)
			p.Sure(1)
			if r.Intn(50) == 0 {
				fmt.Fprint(&b, p.Clean())
			}
		}
		return b.String() + stateOf(p, d).String()
	}
	first := run()
	for range 5 {
		if again := run(); again != first {
			t.Fatalf("%s\nand then\n%s", first, again)
		}
	}
}
