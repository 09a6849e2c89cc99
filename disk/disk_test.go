package disk_test

import (
	"hash/crc32"
	"math"
	"math/rand"
	"slices"
	"strings"
	"testing"
	"unsafe"

	"budwood/api"
	"budwood/disk"
)

const (
	room = 252 // bytes of a page, without its sum
	half = 128 // bytes of a page that a torn write lays
)

var table = crc32.MakeTable(crc32.Castagnoli)

// body is some bytes as Read tells them.
func body(s string) string { return s + strings.Repeat("\x00", room-len(s)) }

// sealed is some bytes as Raw tells them, by the library's own sum.
func sealed(s string) string {
	b := body(s)
	n := crc32.Checksum([]byte(b), table)
	return b + string([]byte{byte(n), byte(n >> 8), byte(n >> 16), byte(n >> 24)})
}

// full is 252 bytes, the same one in the first half, and another one in the second.
func full(first, second string) string {
	return strings.Repeat(first, half) + strings.Repeat(second, room-half)
}

// model keeps what is sure, and all writes, and works all else out of them.
type model struct {
	sure   []string
	writes []modelWrite
}

type modelWrite struct {
	page int
	s    string
}

func newModel(pages int) *model {
	m := &model{}
	for range pages {
		m.sure = append(m.sure, sealed(""))
	}
	return m
}

func (m *model) copy() *model {
	return &model{sure: slices.Clone(m.sure), writes: slices.Clone(m.writes)}
}

func (m *model) raw(page int) string {
	for _, w := range slices.Backward(m.writes) {
		if w.page == page {
			return w.s
		}
	}
	return m.sure[page]
}

func (m *model) read(page int) (string, api.Errno) {
	if s := m.raw(page); sealed(s[:room]) == s {
		return s[:room], api.OK
	}
	return "", api.ErrSum
}

func (m *model) write(page int, s string) {
	m.writes = append(m.writes, modelWrite{page, sealed(s)})
}

func (m *model) sync() {
	for i := range m.sure {
		m.sure[i] = m.raw(i)
	}
	m.writes = nil
}

func (m *model) crash(fates []int) {
	for i, w := range m.writes {
		if i >= len(fates) {
			break
		}
		if fates[i] == 1 {
			m.sure[w.page] = w.s
		}
		if fates[i] == 2 {
			m.sure[w.page] = w.s[:half] + m.sure[w.page][half:]
		}
	}
	m.writes = nil
}

func (m *model) dirty() []int {
	all := []int{}
	for _, w := range m.writes {
		all = append(all, w.page)
	}
	return all
}

// newDisk is n pages that must be there.
func newDisk(t *testing.T, n int) *disk.Disk {
	t.Helper()
	d, e := disk.New(n)
	if e != api.OK || d == nil {
		t.Fatalf("New(%d) = %v, %d", n, d, e)
	}
	return d
}

// lay is a write that must be taken.
func lay(t *testing.T, d *disk.Disk, page int, s string) {
	t.Helper()
	if e := d.Write(page, s); e != api.OK {
		t.Fatalf("Write(%d, %d bytes) = %d", page, len(s), e)
	}
}

// reads holds one page against what Read must tell of it.
func reads(t *testing.T, d *disk.Disk, page int, want string) {
	t.Helper()
	if got, e := d.Read(page); got != body(want) || e != api.OK {
		t.Errorf("Read(%d) = %q, %d; want %q", page, got, e, want)
	}
	if got := d.Raw(page); got != sealed(want) {
		t.Errorf("Raw(%d) = %q; want %q", page, got, sealed(want))
	}
}

// isTorn holds one page against halves that are not of one write.
func isTorn(t *testing.T, d *disk.Disk, page int, first, second string) {
	t.Helper()
	if got, e := d.Read(page); got != "" || e != api.ErrSum {
		t.Errorf("Read(%d) = %q, %d; want empty, ErrSum", page, got, e)
	}
	if got, want := d.Raw(page), sealed(first)[:half]+sealed(second)[half:]; got != want {
		t.Errorf("Raw(%d) = %q; want %q", page, got, want)
	}
}

// hold holds all that d tells against a model, and that telling changes nothing.
func hold(t *testing.T, d *disk.Disk, m *model) {
	t.Helper()
	for range 2 {
		if got := d.Len(); got != len(m.sure) {
			t.Fatalf("Len() = %d; want %d", got, len(m.sure))
		}
		if got := d.Dirty(); !slices.Equal(got, m.dirty()) {
			t.Fatalf("Dirty() = %v; want %v", got, m.dirty())
		}
		for i := range m.sure {
			want, wantE := m.read(i)
			if got, e := d.Read(i); got != want || e != wantE {
				t.Fatalf("Read(%d) = %q, %d; want %q, %d", i, got, e, want, wantE)
			}
			if got := d.Raw(i); got != m.raw(i) {
				t.Fatalf("Raw(%d) = %q; want %q", i, got, m.raw(i))
			}
		}
	}
}

// wrongPages are numbers of which a disk of n pages has none.
func wrongPages(n int) []int {
	return []int{-1, -2, -n, n, n + 1, 2 * n, 1024, 1025, 1 << 32, math.MinInt, math.MaxInt}
}

// everyFates calls f with each list of some fates, of each length up to n.
func everyFates(n int, of []int, f func(fates []int)) {
	var longer func(fates []int)
	longer = func(fates []int) {
		f(fates)
		if len(fates) == n {
			return
		}
		for _, fate := range of {
			longer(append(slices.Clone(fates), fate))
		}
	}
	longer(nil)
}

// The fates have the numbers that the document gives them.
func TestFates(t *testing.T) {
	if disk.Lost != 0 || disk.Kept != 1 || disk.Torn != 2 {
		t.Errorf("Lost, Kept, Torn = %d, %d, %d; want 0, 1, 2", disk.Lost, disk.Kept, disk.Torn)
	}
}

// The document's example: b's bytes, but for the sum.
func TestExample(t *testing.T) {
	d := newDisk(t, 1)
	lay(t, d, 0, "a")
	d.Sync()
	lay(t, d, 0, "b")
	d.Crash([]int{disk.Torn})
	isTorn(t, d, 0, "b", "a")
	if got := d.Raw(0)[:room]; got != body("b") {
		t.Errorf("the bytes are %q; want b's", got)
	}
}

// P4.1: New, of each number of pages that may be: each page has no bytes, and there are no writes.
func TestNew(t *testing.T) {
	for n := 1; n <= api.MaxPages; n++ {
		d := newDisk(t, n)
		if d.Len() != n || len(d.Dirty()) != 0 {
			t.Errorf("New(%d): Len %d, Dirty %v", n, d.Len(), d.Dirty())
		}
		reads(t, d, 0, "")
		reads(t, d, n-1, "")
		if s := d.Raw(n); s != "" {
			t.Errorf("New(%d).Raw(%d) = %q", n, n, s)
		}
	}
	for _, n := range []int{1, 2, 1023, 1024} {
		hold(t, newDisk(t, n), newModel(n))
	}
}

// P4.1: New, of numbers of pages that may not be.
func TestWrongSize(t *testing.T) {
	for _, n := range []int{0, -1, -1024, 1025, 2048, 1 << 32, 1<<32 + 1, math.MinInt, math.MaxInt} {
		if d, e := disk.New(n); d != nil || e != api.ErrArg {
			t.Errorf("New(%d) = %v, %d; want nil, ErrArg", n, d, e)
		}
	}
}

// P4.1: Len is the same whatever is done.
func TestLen(t *testing.T) {
	d := newDisk(t, 3)
	lay(t, d, 2, "a")
	d.Write(3, "a")
	d.Read(7)
	d.Raw(-1)
	d.Sync()
	lay(t, d, 0, "b")
	d.Crash([]int{disk.Torn, disk.Kept})
	if d.Len() != 3 || d.Copy().Len() != 3 {
		t.Errorf("Len() = %d, its copy's %d; want 3", d.Len(), d.Copy().Len())
	}
}

// P4.2: what is written is read, on the first page and on the last one, and the ones beside them stay.
func TestWriteIsRead(t *testing.T) {
	for _, n := range []int{1, 2, 3, 1023, 1024} {
		for _, page := range []int{0, n / 2, n - 1} {
			d, m := newDisk(t, n), newModel(n)
			lay(t, d, page, "abc")
			m.write(page, "abc")
			hold(t, d, m)
			d.Sync()
			m.sync()
			hold(t, d, m)
		}
	}
}

// P4.2: each page has its own bytes.
func TestEveryPage(t *testing.T) {
	d, m := newDisk(t, 1024), newModel(1024)
	for i := range 1024 {
		s := string([]byte{byte(i), byte(i >> 8), 7})
		lay(t, d, i, s)
		m.write(i, s)
	}
	hold(t, d, m)
}

// P4.2: each length up to 252 bytes; with one more nothing is written.
func TestLengths(t *testing.T) {
	for _, fill := range []string{"x", "\x00", "\xff"} {
		for n := range 300 {
			d, m := newDisk(t, 2), newModel(2)
			lay(t, d, 1, "was")
			m.write(1, "was")
			s, want := strings.Repeat(fill, n), api.OK
			if n > room {
				want = api.ErrBig
			} else {
				m.write(1, s)
			}
			if e := d.Write(1, s); e != want {
				t.Errorf("Write(1, %d bytes) = %d; want %d", n, e, want)
			}
			hold(t, d, m)
		}
	}
}

// P4.2: a shorter write leaves nothing of a longer one, and bytes 0 are bytes.
func TestShorterWrite(t *testing.T) {
	d := newDisk(t, 1)
	lay(t, d, 0, full("x", "y"))
	reads(t, d, 0, full("x", "y"))
	lay(t, d, 0, "\x00b\x00")
	reads(t, d, 0, "\x00b\x00")
	lay(t, d, 0, "")
	reads(t, d, 0, "")
	if got := d.Dirty(); !slices.Equal(got, []int{0, 0, 0}) {
		t.Errorf("Dirty() = %v", got)
	}
}

// P4.2: of a page that is none Read and Write tell ErrArg, ahead of ErrBig, and Raw is empty; nothing changes.
func TestNoSuchPage(t *testing.T) {
	for _, n := range []int{1, 2, 3, 1024} {
		d, m := newDisk(t, n), newModel(n)
		lay(t, d, n-1, "last")
		m.write(n-1, "last")
		for _, page := range wrongPages(n) {
			if page >= 0 && page < n {
				continue
			}
			if s, e := d.Read(page); s != "" || e != api.ErrArg {
				t.Errorf("Read(%d) of %d pages = %q, %d; want empty, ErrArg", page, n, s, e)
			}
			if s := d.Raw(page); s != "" {
				t.Errorf("Raw(%d) of %d pages = %q; want empty", page, n, s)
			}
			for _, long := range []int{0, 1, room, room + 1, 1000} {
				if e := d.Write(page, strings.Repeat("x", long)); e != api.ErrArg {
					t.Errorf("Write(%d, %d bytes) of %d pages = %d; want ErrArg", page, long, n, e)
				}
			}
		}
		hold(t, d, m)
		d.Sync()
		m.sync()
		hold(t, d, m)
	}
}

// P4.2, R2: a write that is refused comes not behind a crash either, and shifts no fate.
func TestRefusedWrite(t *testing.T) {
	d := newDisk(t, 2)
	lay(t, d, 0, "a")
	d.Write(0, strings.Repeat("x", room+1))
	d.Write(2, "b")
	lay(t, d, 1, "c")
	d.Crash([]int{disk.Lost, disk.Kept, disk.Kept, disk.Kept})
	reads(t, d, 0, "")
	reads(t, d, 1, "c")
}

// P4.2: a torn page is told again and again, is synced as it is, and is whole behind the next write.
func TestTornPage(t *testing.T) {
	d := newDisk(t, 2)
	lay(t, d, 1, full("a", "b"))
	d.Crash([]int{disk.Torn})
	for range 2 {
		isTorn(t, d, 1, full("a", "b"), "")
		reads(t, d, 0, "")
		d.Sync()
		d.Crash([]int{disk.Kept, disk.Kept})
	}
	if e := d.Write(1, strings.Repeat("x", room+1)); e != api.ErrBig {
		t.Errorf("a long write on a torn page: %d; want ErrBig", e)
	}
	isTorn(t, d, 1, full("a", "b"), "")
	lay(t, d, 1, "c")
	reads(t, d, 1, "c")
	d.Copy().Sync()
	d.Crash(nil)
	isTorn(t, d, 1, full("a", "b"), "")
	lay(t, d, 1, "c")
	d.Sync()
	d.Crash([]int{disk.Torn})
	reads(t, d, 1, "c")
}

// P4.2: behind a Sync all writes stay, the last one of each page, and there are none.
func TestSync(t *testing.T) {
	d, m := newDisk(t, 3), newModel(3)
	d.Sync()
	hold(t, d, m)
	for _, w := range []modelWrite{{0, "a"}, {2, "b"}, {0, "c"}, {0, full("d", "e")}, {2, ""}} {
		lay(t, d, w.page, w.s)
		m.write(w.page, w.s)
		hold(t, d, m)
	}
	d.Sync()
	m.sync()
	hold(t, d, m)
	everyFates(3, []int{disk.Lost, disk.Kept, disk.Torn}, func(fates []int) {
		c := d.Copy()
		c.Crash(fates)
		hold(t, c, m)
	})
}

// P4.2: with several syncs a crash goes back to the last one alone.
func TestSyncs(t *testing.T) {
	d := newDisk(t, 2)
	for _, s := range []string{"a", "b", "c"} {
		lay(t, d, 0, s)
		d.Sync()
	}
	lay(t, d, 0, "d")
	lay(t, d, 1, "e")
	d.Crash(nil)
	reads(t, d, 0, "c")
	reads(t, d, 1, "")
	lay(t, d, 0, "f")
	d.Crash([]int{disk.Lost})
	reads(t, d, 0, "c")
}

// P4.3: Dirty has of each write the page, in order, a page as often as it was written, also with what it had already.
func TestDirty(t *testing.T) {
	d := newDisk(t, 1024)
	want := []int{7, 0, 1023, 7, 7, 3, 0, 1023, 2, 7}
	for range 2 {
		if len(d.Dirty()) != 0 {
			t.Errorf("Dirty() = %v; want none", d.Dirty())
		}
		for i, page := range want {
			lay(t, d, page, "same")
			if got := d.Dirty(); !slices.Equal(got, want[:i+1]) {
				t.Errorf("Dirty() = %v; want %v", got, want[:i+1])
			}
		}
		d.Sync()
	}
	lay(t, d, 5, "")
	d.Crash([]int{disk.Kept})
	if len(d.Dirty()) != 0 {
		t.Errorf("behind a crash: Dirty() = %v; want none", d.Dirty())
	}
}

// P4.3: what one write becomes, by each fate, and by numbers that are none.
func TestOneWrite(t *testing.T) {
	for _, x := range []struct {
		fates []int
		want  string
	}{
		{nil, "was"}, {[]int{}, "was"}, {[]int{disk.Lost}, "was"}, {[]int{disk.Kept}, "now"}, {[]int{disk.Torn}, "torn"},
		{[]int{3}, "was"}, {[]int{-1}, "was"}, {[]int{-2}, "was"}, {[]int{1<<32 + 1}, "was"}, {[]int{258}, "was"}, {[]int{math.MinInt}, "was"}, {[]int{math.MaxInt}, "was"},
		{[]int{disk.Kept, disk.Lost}, "now"}, {[]int{disk.Kept, disk.Torn, disk.Torn}, "now"}, {[]int{disk.Lost, disk.Kept, disk.Torn}, "was"}, {[]int{disk.Torn, disk.Kept}, "torn"},
	} {
		for _, page := range []int{0, 1, 2} {
			d := newDisk(t, 3)
			lay(t, d, page, full("w", "s"))
			d.Sync()
			lay(t, d, page, full("n", "o"))
			d.Crash(x.fates)
			switch x.want {
			case "was":
				reads(t, d, page, full("w", "s"))
			case "now":
				reads(t, d, page, full("n", "o"))
			case "torn":
				isTorn(t, d, page, full("n", "o"), full("w", "s"))
			}
			if len(d.Dirty()) != 0 {
				t.Errorf("%v: Dirty() = %v; want none", x.fates, d.Dirty())
			}
		}
	}
}

// P4.3: one page, written three times: each write finds what those ahead of it have left.
func TestOnePageOften(t *testing.T) {
	was, a, b, c := full("w", "s"), full("a", "1"), full("b", "2"), full("c", "3")
	for _, x := range []struct {
		fates         []int
		first, second string
	}{
		{[]int{disk.Kept, disk.Torn}, b, a},   // torn behind a kept one
		{[]int{disk.Torn, disk.Torn}, b, was}, // torn behind a torn one
		{[]int{disk.Torn, disk.Torn, disk.Torn}, c, was},
		{[]int{disk.Kept, disk.Kept, disk.Torn}, c, b},
		{[]int{disk.Kept, disk.Torn, disk.Torn}, c, a},
		{[]int{disk.Torn, disk.Kept, disk.Torn}, c, b},
		{[]int{disk.Lost, disk.Torn}, b, was}, // torn behind a lost one: not over what was lost
		{[]int{disk.Kept, disk.Lost, disk.Torn}, c, a},
		{[]int{disk.Torn, disk.Lost, disk.Torn}, c, was},
		{[]int{disk.Torn, disk.Lost, disk.Lost}, a, was},
		{[]int{disk.Torn}, a, was},
		{[]int{disk.Torn, 9, -1}, a, was},
		{[]int{disk.Torn, disk.Torn, disk.Kept}, c, c},
		{[]int{disk.Kept, disk.Lost, disk.Lost}, a, a}, // the last write that stays, not the last one
		{[]int{disk.Kept, disk.Kept}, b, b},
		{[]int{disk.Lost, disk.Kept, disk.Lost}, b, b},
		{[]int{disk.Lost, disk.Lost, disk.Kept}, c, c},
		{[]int{disk.Lost, disk.Lost, disk.Lost, disk.Kept, disk.Torn}, was, was},
	} {
		d := newDisk(t, 2)
		lay(t, d, 1, was)
		d.Sync()
		for _, s := range []string{a, b, c} {
			lay(t, d, 1, s)
		}
		reads(t, d, 1, c)
		d.Crash(x.fates)
		if x.first == x.second {
			reads(t, d, 1, x.first)
		} else {
			isTorn(t, d, 1, x.first, x.second)
		}
		reads(t, d, 0, "")
	}
}

// P4.3: one page, written several times before a Sync: the last one stays, whatever a crash behind it says.
func TestOnePageOftenSynced(t *testing.T) {
	d := newDisk(t, 1)
	for _, s := range []string{full("a", "1"), full("b", "2"), full("c", "3")} {
		lay(t, d, 0, s)
	}
	d.Sync()
	reads(t, d, 0, full("c", "3"))
	d.Crash([]int{disk.Kept, disk.Torn, disk.Lost})
	reads(t, d, 0, full("c", "3"))
}

// P4.3: every list of fates, shorter and longer than the writes, on pages that are written in turns.
func TestEveryFates(t *testing.T) {
	d, m := newDisk(t, 3), newModel(3)
	lay(t, d, 0, full("w", "s"))
	m.write(0, full("w", "s"))
	d.Sync()
	m.sync()
	for _, w := range []modelWrite{{0, full("a", "1")}, {1, full("b", "2")}, {0, full("c", "3")}, {1, "d"}} {
		lay(t, d, w.page, w.s)
		m.write(w.page, w.s)
	}
	everyFates(5, []int{disk.Lost, disk.Kept, disk.Torn, -1, 3}, func(fates []int) {
		c, n := d.Copy(), m.copy()
		c.Crash(fates)
		n.crash(fates)
		hold(t, c, n)
	})
	hold(t, d, m)
}

// P4.3: what a crash has left is what the next one finds, torn or not.
func TestCrashBehindCrash(t *testing.T) {
	a, b, c := full("a", "1"), full("b", "2"), full("c", "3")
	d := newDisk(t, 1)
	lay(t, d, 0, a)
	d.Crash([]int{disk.Kept})
	d.Crash(nil)
	reads(t, d, 0, a)
	lay(t, d, 0, b)
	d.Crash([]int{disk.Torn})
	isTorn(t, d, 0, b, a)
	lay(t, d, 0, c)
	reads(t, d, 0, c)
	d.Crash([]int{disk.Lost})
	isTorn(t, d, 0, b, a)
	lay(t, d, 0, c)
	d.Crash([]int{disk.Torn})
	isTorn(t, d, 0, c, a)
	lay(t, d, 0, c)
	d.Crash([]int{disk.Kept})
	reads(t, d, 0, c)
}

// P4.3: a crash without writes changes nothing, whatever it is told.
func TestCrashWithoutWrites(t *testing.T) {
	d, m := newDisk(t, 2), newModel(2)
	for _, fates := range [][]int{nil, {}, {disk.Kept}, {disk.Torn, disk.Torn, disk.Torn}, {-5, 77}} {
		d.Crash(fates)
		hold(t, d, m)
	}
}

// P4.4: a torn write is not to be told where its halves are those of one write.
func TestTornUnseen(t *testing.T) {
	for _, x := range []struct{ was, now, want string }{
		{full("a", "1"), full("a", "1"), full("a", "1")}, // the same bytes
		{full("a", "1"), full("a", "2"), full("a", "1")}, // the other half alone is new: it is lost
		{"", "", ""},
		{body("")[:half] + "x", "", body("")[:half] + "x"},
	} {
		d := newDisk(t, 1)
		lay(t, d, 0, x.was)
		d.Sync()
		lay(t, d, 0, x.now)
		d.Crash([]int{disk.Torn})
		reads(t, d, 0, x.want)
	}
}

// P4.4: the half ends between the byte 127 and the byte 128.
func TestWhereItTears(t *testing.T) {
	for at := range room {
		was := []byte(full("a", "a"))
		was[at] = 'b'
		d := newDisk(t, 1)
		lay(t, d, 0, string(was))
		d.Sync()
		lay(t, d, 0, full("a", "a"))
		d.Crash([]int{disk.Torn})
		if at < half {
			isTorn(t, d, 0, full("a", "a"), string(was))
		} else {
			reads(t, d, 0, string(was))
		}
	}
}

// P4.4: a page that was not written behind the last Sync stays, and of one that was each half is that of one of its writes, or of what it had.
func TestHalves(t *testing.T) {
	r := rand.New(rand.NewSource(4))
	for range 300 {
		pages := 1 + r.Intn(6)
		d := newDisk(t, pages)
		for i := range pages {
			lay(t, d, i, bytesBy(r))
		}
		d.Sync()
		had := make([][]string, pages)
		for i := range had {
			had[i] = []string{d.Raw(i)}
		}
		for range r.Intn(10) {
			page := r.Intn(pages)
			lay(t, d, page, bytesBy(r))
			had[page] = append(had[page], d.Raw(page))
		}
		d.Crash(fatesBy(r, 12))
		for i, of := range had {
			s := d.Raw(i)
			if len(of) == 1 && s != of[0] {
				t.Fatalf("page %d was not written, and is %q; want %q", i, s, of[0])
			}
			if !slices.ContainsFunc(of, func(w string) bool { return w[:half] == s[:half] }) {
				t.Fatalf("page %d: its first half %q is nobody's", i, s[:half])
			}
			if !slices.ContainsFunc(of, func(w string) bool { return w[half:] == s[half:] }) {
				t.Fatalf("page %d: its second half %q is nobody's", i, s[half:])
			}
			if _, e := d.Read(i); (e == api.OK) != slices.Contains(of, s) {
				t.Fatalf("page %d is %q: Read tells %d", i, s, e)
			}
		}
	}
}

// bytesBy is some bytes by chance, of each length, and often of few different ones.
func bytesBy(r *rand.Rand) string {
	b := make([]byte, r.Intn(room+1))
	few := 1 + r.Intn(256)
	for i := range b {
		b[i] = byte(r.Intn(few))
	}
	return string(b)
}

// fatesBy is fewer than n fates by chance, numbers among them that are none.
func fatesBy(r *rand.Rand, n int) []int {
	fates := make([]int, r.Intn(n))
	for i := range fates {
		fates[i] = r.Intn(5) - 1
	}
	return fates
}

// P4.1 to P4.4: many calls by chance, the same ones in every run, on several disks of which some are copies of others.
func TestByChance(t *testing.T) {
	r := rand.New(rand.NewSource(1))
	for _, pages := range []int{1, 2, 5, 1024} {
		disks, models := []*disk.Disk{newDisk(t, pages)}, []*model{newModel(pages)}
		for step := range 3000 {
			k := r.Intn(len(disks))
			d, m := disks[k], models[k]
			switch call := r.Intn(40); {
			case call < 30:
				page, s := r.Intn(pages), bytesBy(r)
				lay(t, d, page, s)
				m.write(page, s)
			case call < 32:
				d.Write(pages+call, "x")
			case call < 34:
				d.Sync()
				m.sync()
			case call < 38:
				fates := fatesBy(r, 30)
				d.Crash(fates)
				m.crash(fates)
			case len(disks) < 4:
				disks, models = append(disks, d.Copy()), append(models, m.copy())
			}
			if step%(pages+10) == 0 {
				hold(t, d, m)
			}
		}
		for k := range disks {
			hold(t, disks[k], models[k])
		}
	}
}

// P4.3, R7: a copy tells what its original tells, and each goes its own way from then on.
func TestCopy(t *testing.T) {
	for writes := range 10 { // some of these leave spare room behind the writes, into which both would write
		d, m := newDisk(t, 4), newModel(4)
		lay(t, d, 3, "sure")
		m.write(3, "sure")
		d.Sync()
		m.sync()
		for i := range writes {
			lay(t, d, i%3, full("a", string(rune('0'+i))))
			m.write(i%3, full("a", string(rune('0'+i))))
		}
		c, n := d.Copy(), m.copy()
		if c == d {
			t.Fatal("a copy is its original")
		}
		hold(t, c, n)
		lay(t, d, 3, "original")
		m.write(3, "original")
		lay(t, c, 0, "copy")
		n.write(0, "copy")
		hold(t, d, m)
		hold(t, c, n)
		synced, nSynced := c.Copy(), n.copy()
		synced.Sync()
		nSynced.sync()
		fates := []int{disk.Torn, disk.Kept, disk.Torn, disk.Lost, disk.Torn, disk.Kept, disk.Torn, disk.Torn, disk.Kept, disk.Torn}
		c.Crash(fates)
		n.crash(fates)
		hold(t, synced, nSynced)
		hold(t, c, n)
		hold(t, d, m)
		d.Crash(fates)
		m.crash(fates)
		hold(t, d, m)
		hold(t, c, n)
	}
}

// R4: what is handed in is neither changed nor kept, nor the room behind it.
func TestHandedIn(t *testing.T) {
	d := newDisk(t, 2)
	b := []byte(full("a", "1"))
	lay(t, d, 0, unsafe.String(&b[0], len(b)))
	lay(t, d, 1, unsafe.String(&b[0], 1))
	for i := range b {
		b[i] = 'z'
	}
	reads(t, d, 0, full("a", "1"))
	reads(t, d, 1, "a")
	fates := []int{disk.Kept, disk.Torn, disk.Kept, 9}
	d.Crash(fates[:2])
	if !slices.Equal(fates, []int{disk.Kept, disk.Torn, disk.Kept, 9}) {
		t.Errorf("the fates became %v", fates)
	}
	short := newDisk(t, 1)
	lay(t, short, 0, "a")
	short.Crash(fates[:0]) // what stands behind a list is no fate
	reads(t, short, 0, "")
}

// R4: what is answered is new memory: nothing that is done to it, or to the disk behind it, shows elsewhere.
func TestAnswered(t *testing.T) {
	d := newDisk(t, 3)
	lay(t, d, 1, "a")
	lay(t, d, 2, "b")
	lay(t, d, 1, "c")
	first, second := d.Dirty(), d.Dirty()
	all := first[:cap(first)]
	for i := range all {
		all[i] = 99
	}
	if want := []int{1, 2, 1}; !slices.Equal(second, want) || !slices.Equal(d.Dirty(), want) {
		t.Errorf("Dirty() = %v, then %v; want %v", second, d.Dirty(), want)
	}
	raw, again := d.Raw(1), d.Raw(1)
	read, _ := d.Read(1)
	reread, _ := d.Read(1)
	other, blank := d.Raw(0), d.Raw(0)
	for _, x := range [][2]string{{raw, again}, {read, reread}, {raw, read}, {other, blank}} {
		if unsafe.StringData(x[0]) == unsafe.StringData(x[1]) {
			t.Error("bytes are shared")
		}
	}
	lay(t, d, 1, "d")
	d.Crash([]int{disk.Torn, disk.Torn, disk.Torn})
	if raw != sealed("c") || read != body("c") || !slices.Equal(second, []int{1, 2, 1}) {
		t.Errorf("what was answered changed: %q, %q, %v", raw, read, second)
	}
}
