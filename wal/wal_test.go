package wal_test

import (
	"encoding/binary"
	"fmt"
	"math/rand"
	"slices"
	"strings"
	"testing"
	"unsafe"

	"budwood/api"
	"budwood/disk"
	"budwood/wal"
)

const (
	room    = 234    // bytes of records on a leaf
	endMark = 244    // where a leaf's second age stands
	longest = 100000 // bytes of a record
)

// page is a leaf's 252 bytes, by the document's words.
func page(age, number, begins int, text string) string {
	mark := binary.LittleEndian.AppendUint64(nil, uint64(age))[:6]
	mark = binary.LittleEndian.AppendUint16(mark, uint16(number))
	b := slices.Clone(mark)
	b = append(b, byte(begins), byte(len(text)))
	b = append(b, text...)
	b = append(b, make([]byte, endMark-len(b))...)
	return string(append(b, mark...))
}

// recs are records as bytes.
func recs(all ...string) string {
	b := []byte{}
	for _, s := range all {
		n := len(s)
		b = append(b, byte(n), byte(n>>8), byte(n>>16))
		b = append(b, s...)
	}
	return string(b)
}

// x is n bytes.
func x(n int) string { return strings.Repeat("x", n) }

// with is s with other bytes at a place.
func with(s string, at int, bytes string) string {
	return s[:at] + bytes + s[at+len(bytes):]
}

func newDisk(t *testing.T, pages int) *disk.Disk {
	t.Helper()
	d, e := disk.New(pages)
	if e != api.OK {
		t.Fatalf("disk.New(%d) = %d", pages, e)
	}
	return d
}

// diskOf is a disk of so many pages, some of which were written, and synced.
func diskOf(t *testing.T, pages int, have map[int]string) *disk.Disk {
	t.Helper()
	d := newDisk(t, pages)
	for i, s := range have {
		if e := d.Write(i, s); e != api.OK {
			t.Fatalf("disk.Write(%d) = %d", i, e)
		}
	}
	d.Sync()
	return d
}

// open is a log that must be there.
func open(t *testing.T, d *disk.Disk) *wal.Log {
	t.Helper()
	l, e := wal.Open(d)
	if e != api.OK || l == nil {
		t.Fatalf("Open of %d pages = %v, %d", d.Len(), l, e)
	}
	return l
}

// takes appends a record that must be taken.
func takes(t *testing.T, l *wal.Log, s string) {
	t.Helper()
	was := len(l.Records())
	if n, e := l.Append(s); n != was+1 || e != api.OK {
		t.Fatalf("Append of %d bytes = %d, %d; want %d, 0", len(s), n, e, was+1)
	}
}

func writes(t *testing.T, l *wal.Log) {
	t.Helper()
	if e := l.Write(); e != api.OK {
		t.Fatalf("Write = %d", e)
	}
}

func turns(t *testing.T, l *wal.Log, s string) {
	t.Helper()
	if e := l.Turn(s); e != api.OK {
		t.Fatalf("Turn of %d bytes = %d", len(s), e)
	}
}

// state is all that a log tells.
type state struct {
	records                      []string
	sure, pages, room, half, age int
}

func stateOf(l *wal.Log) state {
	return state{l.Records(), l.Sure(), l.Pages(), l.Room(), l.Half(), l.Age()}
}

func same(a, b state) bool {
	return slices.Equal(a.records, b.records) && a.sure == b.sure && a.pages == b.pages && a.room == b.room && a.half == b.half && a.age == b.age
}

// short tells a state without its records' bytes.
func (s state) short() string {
	b := fmt.Sprintf("half %d, age %d, pages %d, room %d, sure %d, records:", s.half, s.age, s.pages, s.room, s.sure)
	for _, r := range s.records {
		b += fmt.Sprintf(" %d*%.8q", len(r), r)
	}
	return b
}

func tells(t *testing.T, l *wal.Log, want state) {
	t.Helper()
	if got := stateOf(l); !same(got, want) {
		t.Errorf("the log tells\n%s; want\n%s", got.short(), want.short())
	}
}

// onDisk holds the pages that were written against leaves.
func onDisk(t *testing.T, d *disk.Disk, want map[int]string) {
	t.Helper()
	for i := range d.Len() {
		w, is := want[i]
		if !is {
			w = strings.Repeat("\x00", 252)
		}
		if got := d.Raw(i)[:252]; got != w {
			t.Errorf("page %d is\n%q; want\n%q", i, got, w)
		}
	}
}

func dirty(t *testing.T, d *disk.Disk, want ...int) {
	t.Helper()
	if got := d.Dirty(); !slices.Equal(got, want) {
		t.Errorf("Dirty = %v; want %v", got, want)
	}
}

// The chapter's example.
func TestExample(t *testing.T) {
	d := newDisk(t, 4)
	l := open(t, d)
	takes(t, l, "a")
	writes(t, l)
	d.Crash(nil)
	if got := open(t, d).Records(); len(got) != 0 {
		t.Errorf("all was lost, but there is %q", got)
	}
	d = newDisk(t, 4)
	l = open(t, d)
	takes(t, l, "a")
	writes(t, l)
	l.Sync()
	d.Crash(nil)
	if got := open(t, d).Records(); !slices.Equal(got, []string{"a"}) {
		t.Errorf("what was synced is %q; want a", got)
	}
}

// P6.1: a disk of less than 4 pages has no log, whatever stands on it; R2: ErrArg comes ahead of ErrForm.
func TestOpenSmall(t *testing.T) {
	for pages := 1; pages <= 3; pages++ {
		for _, s := range []string{"", page(1, 0, 1, recs("a")), page(1<<40, 0, 1, recs("a"))} {
			d := diskOf(t, pages, map[int]string{0: s})
			if l, e := wal.Open(d); l != nil || e != api.ErrArg {
				t.Errorf("Open of %d pages = %v, %d; want none, %d", pages, l, e, api.ErrArg)
			}
		}
	}
}

// P6.1, P6.5: a new disk's log is empty, with a half of its pages, rounded down.
func TestOpenNew(t *testing.T) {
	for _, pages := range []int{4, 5, 6, 7, 9, 1023, 1024} {
		d := newDisk(t, pages)
		l := open(t, d)
		tells(t, l, state{room: pages / 2, age: 1})
		dirty(t, d)
	}
}

// P6.2, P6.3: the halves of a disk with an odd number of pages are the first pages, and as many behind them; the last page has no part in it.
func TestOddDisks(t *testing.T) {
	for _, pages := range []int{4, 5, 7, 9, 11} {
		half := pages / 2
		d := newDisk(t, pages)
		l := open(t, d)
		takes(t, l, x(half*room-3))
		writes(t, l)
		want := []int{}
		for i := range half {
			want = append(want, i)
		}
		dirty(t, d, want...)
		l.Sync()
		tells(t, l, state{[]string{x(half*room - 3)}, 1, half, 0, 0, 1})
		turns(t, l, x(half*room-3))
		for i := range want {
			want[i] += half
		}
		dirty(t, d, want...)
		l.Sync()
		tells(t, l, state{[]string{x(half*room - 3)}, 1, half, 0, 1, 2})
		turns(t, l, "a")
		dirty(t, d, 0)
		l.Sync()
		tells(t, l, state{[]string{"a"}, 1, 1, half - 1, 0, 3})
		tells(t, open(t, d), state{[]string{"a"}, 1, 1, half - 1, 0, 4})
	}
	// a leaf on the page behind both halves, which would be half 1's page 2, is not gone through, but its age counts
	d := diskOf(t, 5, map[int]string{
		2: page(3, 0, 1, recs("a")),
		3: page(3, 1, 0, recs("b")),
		4: page(7, 2, 1, recs("c")),
	})
	tells(t, open(t, d), state{[]string{"a", "b"}, 2, 2, 0, 1, 8})
	// nor is half 1's page 0 a page of half 0
	d = diskOf(t, 4, map[int]string{
		0: page(3, 0, 1, recs("a")),
		1: page(3, 1, 0, recs("b")),
		2: page(3, 2, 0, recs("c")),
	})
	tells(t, open(t, d), state{[]string{"a", "b"}, 2, 2, 0, 0, 4})
}

// P6.2: a record has 1 to 100000 bytes.
func TestAppendLengths(t *testing.T) {
	for _, c := range []struct {
		n    int
		want api.Errno
	}{{0, api.ErrArg}, {1, api.OK}, {longest, api.OK}, {longest + 1, api.ErrArg}, {1 << 20, api.ErrArg}} {
		d := newDisk(t, 1024)
		l := open(t, d)
		num := 1
		if c.want != api.OK {
			num = 0
		}
		was := stateOf(l)
		if n, e := l.Append(x(c.n)); n != num || e != c.want {
			t.Errorf("Append of %d bytes = %d, %d; want %d, %d", c.n, n, e, num, c.want)
		}
		if c.want != api.OK {
			tells(t, l, was)
			if e := l.Turn(x(c.n)); e != c.want {
				t.Errorf("Turn of %d bytes = %d; want %d", c.n, e, c.want)
			}
			tells(t, l, was)
			dirty(t, d)
			continue
		}
		writes(t, l)
		l.Sync()
		tells(t, open(t, d), state{[]string{x(c.n)}, 1, (c.n + 3 + room - 1) / room, 512 - (c.n+3+room-1)/room, 0, 2})
		turns(t, l, x(c.n))
		l.Sync()
		tells(t, open(t, d), state{[]string{x(c.n)}, 1, (c.n + 3 + room - 1) / room, 512 - (c.n+3+room-1)/room, 1, 3})
	}
}

// P6.2: numbers go on behind the records that were found, written, and not written.
func TestAppendNumbers(t *testing.T) {
	d := newDisk(t, 40)
	l := open(t, d)
	for i := range 60 {
		if n, e := l.Append("a"); n != i+1 || e != api.OK {
			t.Fatalf("Append %d = %d, %d", i+1, n, e)
		}
		switch i % 15 {
		case 3:
			writes(t, l)
		case 7:
			writes(t, l)
			l.Sync()
		case 10:
			writes(t, l)
			l = open(t, d)
		case 12:
			if n, e := l.Append(""); n != 0 || e != api.ErrArg {
				t.Errorf("Append of nothing = %d, %d", n, e)
			}
		}
	}
	writes(t, l)
	l.Sync()
	turns(t, l, "t")
	l.Sync()
	if n, e := l.Append("b"); n != 2 || e != api.OK {
		t.Errorf("behind a Turn Append = %d, %d; want 2, 0", n, e)
	}
}

// P6.2: records that take just all pages that are left, and one byte more, in one record or in several.
func TestAppendFull(t *testing.T) {
	for _, pages := range []int{4, 5, 8, 9} {
		half := pages / 2
		for used := 0; used <= half; used++ {
			for _, ahead := range []int{0, 1, 17, room - 3, room - 2} {
				l := open(t, newDisk(t, pages))
				if used > 0 {
					takes(t, l, x((used-1)*room+1))
					writes(t, l)
				}
				left := (half - used) * room
				if ahead > 0 && ahead+3 <= left {
					takes(t, l, x(ahead))
					left -= ahead + 3
				}
				was := stateOf(l)
				if was.pages != used || was.room != half-used {
					t.Fatalf("of %d pages %d are used: %s", pages, used, was.short())
				}
				for _, over := range []int{1, 2, 3, 4, room, longest - left} {
					if n, e := l.Append(x(max(left-3, 0) + over)); n != 0 || e != api.ErrFull {
						t.Errorf("%d pages, %d used, %d ahead: Append of %d too many = %d, %d; want 0, %d", pages, used, ahead, over, n, e, api.ErrFull)
					}
				}
				tells(t, l, was)
				if left < 4 {
					if n, e := l.Append("a"); n != 0 || e != api.ErrFull {
						t.Errorf("Append to no room = %d, %d", n, e)
					}
					continue
				}
				takes(t, l, x(left-3))
				if n, e := l.Append("a"); n != 0 || e != api.ErrFull {
					t.Errorf("Append behind the last byte = %d, %d", n, e)
				}
				writes(t, l)
				if l.Pages() != half || l.Room() != 0 {
					t.Errorf("%d pages, %d used: %s", pages, used, stateOf(l).short())
				}
			}
		}
	}
}

// P6.2: what was written takes whole pages, so that by Write room is lost that records together would have had.
func TestAppendBehindWrite(t *testing.T) {
	l := open(t, newDisk(t, 4))
	takes(t, l, "a")
	takes(t, l, x(2*room-4-3)) // together just two pages
	l = open(t, newDisk(t, 4))
	takes(t, l, "a")
	writes(t, l)
	if n, e := l.Append(x(room - 2)); n != 0 || e != api.ErrFull {
		t.Errorf("Append = %d, %d", n, e)
	}
	takes(t, l, x(room-3))
	writes(t, l)
	tells(t, l, state{[]string{"a", x(room - 3)}, 0, 2, 0, 0, 1})
}

// P6.3: what stands on a disk, byte by byte.
func TestLeafBytes(t *testing.T) {
	d := newDisk(t, 9)
	l := open(t, d)
	takes(t, l, "ab")
	takes(t, l, "c")
	writes(t, l)
	dirty(t, d, 0)
	first := "\x01\x00\x00\x00\x00\x00" + "\x00\x00" + "\x01" + "\x09" + "\x02\x00\x00ab\x01\x00\x00c" + strings.Repeat("\x00", room-9) + "\x01\x00\x00\x00\x00\x00" + "\x00\x00"
	onDisk(t, d, map[int]string{0: first})
	takes(t, l, "d")
	writes(t, l)
	dirty(t, d, 0, 1)
	second := "\x01\x00\x00\x00\x00\x00" + "\x01\x00" + "\x01" + "\x04" + "\x01\x00\x00d" + strings.Repeat("\x00", room-4) + "\x01\x00\x00\x00\x00\x00" + "\x01\x00"
	onDisk(t, d, map[int]string{0: first, 1: second})
	l.Sync()
	turns(t, l, "t")
	dirty(t, d, 4)
	third := "\x02\x00\x00\x00\x00\x00" + "\x00\x00" + "\x01" + "\x04" + "\x01\x00\x00t" + strings.Repeat("\x00", room-4) + "\x02\x00\x00\x00\x00\x00" + "\x00\x00"
	onDisk(t, d, map[int]string{0: first, 1: second, 4: third})
}

// P6.3: a record over several leaves: each but the last one is full, and a record begins at the first one's beginning alone.
func TestWriteOverLeaves(t *testing.T) {
	long := strings.Repeat("0123456789", 70) // with its length 703 bytes: three leaves and a byte
	all := recs("a", long)
	d := newDisk(t, 20)
	l := open(t, d)
	takes(t, l, "a")
	takes(t, l, long)
	writes(t, l)
	dirty(t, d, 0, 1, 2, 3)
	want := map[int]string{
		0: page(1, 0, 1, all[:room]),
		1: page(1, 1, 0, all[room:2*room]),
		2: page(1, 2, 0, all[2*room:3*room]),
		3: page(1, 3, 0, all[3*room:]),
	}
	onDisk(t, d, want)
	takes(t, l, "b")
	writes(t, l)
	want[4] = page(1, 4, 1, recs("b"))
	onDisk(t, d, want)
	tells(t, l, state{[]string{"a", long, "b"}, 0, 5, 5, 0, 1})
	l.Sync()
	tells(t, l, state{[]string{"a", long, "b"}, 3, 5, 5, 0, 1})
	turns(t, l, long)
	all = recs(long)
	for i := range 3 {
		begins := 0
		if i == 0 {
			begins = 1
		}
		want[10+i] = page(2, i, begins, all[i*room:(i+1)*room])
	}
	want[13] = page(2, 3, 0, all[3*room:])
	dirty(t, d, 10, 11, 12, 13)
	onDisk(t, d, want)
}

// P6.3: as few leaves as can be: 234 bytes are one leaf, 235 are two; of a second Write too.
func TestWriteFewLeaves(t *testing.T) {
	for _, c := range []struct {
		lengths []int
		pages   int
	}{
		{[]int{1}, 1}, {[]int{room - 4}, 1}, {[]int{room - 3}, 1}, {[]int{room - 2}, 2},
		{[]int{2*room - 3}, 2}, {[]int{2*room - 2}, 3},
		{[]int{1, room - 4 - 3}, 1}, {[]int{1, room - 4 - 2}, 2},
		{[]int{room - 3, 1}, 2}, {[]int{room - 4, 1}, 2}, {[]int{room - 5, 1}, 2}, {[]int{room - 6, 1}, 2}, {[]int{room - 7, 1}, 1},
		{[]int{1, 1, 1, 1, 1}, 1}, {[]int{100, 100, 100}, 2}, {[]int{500, 500, 500}, 7},
	} {
		d := newDisk(t, 40)
		l := open(t, d)
		var all []string
		for round := range 2 {
			for i, n := range c.lengths {
				s := strings.Repeat(string(rune('a'+i)), n)
				takes(t, l, s)
				all = append(all, s)
			}
			writes(t, l)
			tells(t, l, state{all, 0, c.pages * (round + 1), 20 - c.pages*(round+1), 0, 1})
		}
		l.Sync()
		tells(t, open(t, d), state{all, len(all), c.pages * 2, 20 - c.pages*2, 0, 2})
	}
}

// P6.3: with nothing to write Write is OK, and writes nothing.
func TestWriteNothing(t *testing.T) {
	d := newDisk(t, 4)
	l := open(t, d)
	writes(t, l)
	dirty(t, d)
	tells(t, l, state{room: 2, age: 1})
	takes(t, l, "a")
	writes(t, l)
	writes(t, l)
	dirty(t, d, 0)
	tells(t, l, state{[]string{"a"}, 0, 1, 1, 0, 1})
	l.Sync()
	writes(t, l)
	dirty(t, d)
	takes(t, l, "b")
	writes(t, l)
	writes(t, l)
	dirty(t, d, 1)
	l.Sync()
	writes(t, l) // of no room too
	l = open(t, d)
	writes(t, l)
	dirty(t, d)
	tells(t, l, state{[]string{"a", "b"}, 2, 2, 0, 0, 2})
}

// P6.3, P6.5: what was written ahead of a Sync is sure, what was not written is not; the disk's writes stay.
func TestSync(t *testing.T) {
	d := newDisk(t, 8)
	l := open(t, d)
	l.Sync()
	tells(t, l, state{room: 4, age: 1})
	takes(t, l, "a")
	l.Sync()
	tells(t, l, state{[]string{"a"}, 0, 0, 4, 0, 1})
	writes(t, l)
	takes(t, l, "b")
	tells(t, l, state{[]string{"a", "b"}, 0, 1, 3, 0, 1})
	dirty(t, d, 0)
	l.Sync()
	dirty(t, d)
	tells(t, l, state{[]string{"a", "b"}, 1, 1, 3, 0, 1})
	writes(t, l)
	tells(t, l, state{[]string{"a", "b"}, 1, 2, 2, 0, 1})
	l.Sync()
	l.Sync()
	tells(t, l, state{[]string{"a", "b"}, 2, 2, 2, 0, 1})
	d.Crash(nil)
	tells(t, open(t, d), state{[]string{"a", "b"}, 2, 2, 2, 0, 2})
}

// P6.4: no Turn with records that were not written, or are not sure, or behind a Turn; R2: nothing changes by one that is none.
func TestTurnStates(t *testing.T) {
	d := newDisk(t, 8)
	l := open(t, d)
	refuses := func(why, s string, want api.Errno) {
		t.Helper()
		was, wrote := stateOf(l), d.Dirty()
		if e := l.Turn(s); e != want {
			t.Errorf("Turn %s = %d; want %d", why, e, want)
		}
		tells(t, l, was)
		dirty(t, d, wrote...)
	}
	takes(t, l, "a")
	refuses("with a record that was not written", "t", api.ErrState)
	refuses("of nothing, with a record that was not written", "", api.ErrArg)
	refuses("of too many bytes, with a record that was not written", x(longest+1), api.ErrArg)
	refuses("of no room, with a record that was not written", x(longest), api.ErrState)
	writes(t, l)
	refuses("with a record that is not sure", "t", api.ErrState)
	refuses("of no room, with a record that is not sure", x(4*room-2), api.ErrState)
	l.Sync()
	takes(t, l, "b")
	refuses("with a second record that was not written", "t", api.ErrState)
	writes(t, l)
	takes(t, l, "c")
	l.Sync()
	refuses("with a third record that was not written", "t", api.ErrState)
	writes(t, l)
	refuses("with a third record that is not sure", "t", api.ErrState)
	l.Sync()
	refuses("of nothing", "", api.ErrArg)
	refuses("of no room", x(4*room-2), api.ErrFull)
	turns(t, l, "t")
	refuses("behind a Turn", "u", api.ErrState)
	refuses("of nothing, behind a Turn", "", api.ErrArg)
	refuses("of no room, behind a Turn", x(longest), api.ErrState)
	l.Sync()
	refuses("of no room", x(4*room-2), api.ErrFull)
	turns(t, l, "u")
	l.Sync()
	tells(t, l, state{[]string{"u"}, 1, 1, 3, 0, 3})
}

// P6.2 to P6.5: behind a Turn without a Sync nothing is appended, or written; the log stands where it stood, but for its age.
func TestBehindTurn(t *testing.T) {
	d := newDisk(t, 4)
	l := open(t, d)
	takes(t, l, "a")
	takes(t, l, x(room))
	writes(t, l)
	l.Sync()
	turns(t, l, x(room))
	want := state{[]string{"a", x(room)}, 2, 2, 0, 0, 2}
	tells(t, l, want)
	dirty(t, d, 2, 3)
	for _, c := range []struct {
		s    string
		want api.Errno
	}{{"b", api.ErrState}, {x(longest), api.ErrState}, {"", api.ErrArg}, {x(longest + 1), api.ErrArg}} {
		if n, e := l.Append(c.s); n != 0 || e != c.want {
			t.Errorf("behind a Turn Append of %d bytes = %d, %d; want 0, %d", len(c.s), n, e, c.want)
		}
	}
	if e := l.Write(); e != api.ErrState {
		t.Errorf("behind a Turn Write = %d", e)
	}
	if e := l.Turn("u"); e != api.ErrState {
		t.Errorf("behind a Turn Turn = %d", e)
	}
	tells(t, l, want)
	dirty(t, d, 2, 3)
	l.Sync()
	dirty(t, d)
	tells(t, l, state{[]string{x(room)}, 1, 2, 0, 1, 2})
	l.Sync() // a second one does not turn back
	tells(t, l, state{[]string{x(room)}, 1, 2, 0, 1, 2})
	writes(t, l)
	turns(t, l, "b")
	l.Sync()
	takes(t, l, "c")
	writes(t, l)
	l.Sync()
	tells(t, l, state{[]string{"b", "c"}, 2, 2, 0, 0, 3})
	tells(t, open(t, d), state{[]string{"b", "c"}, 2, 2, 0, 0, 4})
}

// P6.4: a record that fits a half just so, and one that does not, whatever the log has used of its own half.
func TestTurnFits(t *testing.T) {
	for _, pages := range []int{4, 5, 6, 9, 400, 851} {
		half := pages / 2
		for _, used := range []bool{false, true} {
			d := newDisk(t, pages)
			l := open(t, d)
			if used {
				takes(t, l, x(half*room-3))
				writes(t, l)
				l.Sync()
			}
			was := stateOf(l)
			if e := l.Turn(x(half*room - 2)); e != api.ErrFull {
				t.Errorf("%d pages: Turn of a byte too many = %d", pages, e)
			}
			if e := l.Turn(x(half*room + 500)); e != api.ErrFull {
				t.Errorf("%d pages: Turn of many bytes too many = %d", pages, e)
			}
			tells(t, l, was)
			dirty(t, d)
			turns(t, l, x(half*room-3))
			l.Sync()
			tells(t, l, state{[]string{x(half*room - 3)}, 1, half, 0, 1, 2})
			tells(t, open(t, d), state{[]string{x(half*room - 3)}, 1, half, 0, 1, 3})
		}
	}
}

// P6.4: a log without records turns too; what a Turn writes has an age of its own, and what is appended behind it that age too.
func TestTurnAges(t *testing.T) {
	d := newDisk(t, 8)
	l := open(t, d)
	turns(t, l, "t")
	if l.Age() != 2 || l.Half() != 0 || len(l.Records()) != 0 {
		t.Errorf("behind a Turn: %s", stateOf(l).short())
	}
	l.Sync()
	takes(t, l, "a")
	writes(t, l)
	l.Sync()
	onDisk(t, d, map[int]string{4: page(2, 0, 1, recs("t")), 5: page(2, 1, 1, recs("a"))})
	turns(t, l, "u")
	onDisk(t, d, map[int]string{0: page(3, 0, 1, recs("u")), 4: page(2, 0, 1, recs("t")), 5: page(2, 1, 1, recs("a"))})
	l.Sync()
	l = open(t, d)
	tells(t, l, state{[]string{"u"}, 1, 1, 3, 0, 4})
	takes(t, l, "b")
	writes(t, l)
	onDisk(t, d, map[int]string{0: page(3, 0, 1, recs("u")), 1: page(4, 1, 1, recs("b")), 4: page(2, 0, 1, recs("t")), 5: page(2, 1, 1, recs("a"))})
}

// P6.1: pages that are no leaves, each behind a leaf, and as a half's page 0. What follows them is not gone through.
func TestNoLeaves(t *testing.T) {
	right := page(3, 1, 0, recs("b"))
	cases := map[string]string{
		"an age of 0":                 page(0, 1, 0, recs("b")),
		"a first age of 0":            with(right, 0, "\x00"),
		"a second age of 0":           with(right, endMark, "\x00"),
		"a first age that differs":    with(right, 0, "\x04"),
		"a second age that differs":   with(right, endMark, "\x04"),
		"a second age, its last byte": with(right, endMark+4, "\x01"),
		"a first number that differs": with(right, 6, "\x02"),
		"a second number, low byte":   with(right, endMark+6, "\x02"),
		"a second number, high byte":  with(right, endMark+7, "\x01"),
		"a first number, high byte":   with(right, 7, "\x01"),
		"the number of page 0":        page(3, 0, 0, recs("b")),
		"the number of page 2":        page(3, 2, 0, recs("b")),
		"the number of page 257":      page(3, 257, 0, recs("b")),
		"the disk's number":           page(3, 6, 0, recs("b")),
		"a third byte of 2":           with(right, 8, "\x02"),
		"a third byte of 3":           with(right, 8, "\x03"),
		"a third byte of 255":         with(right, 8, "\xff"),
		"235 bytes":                   with(right, 9, "\xeb"),
		"255 bytes":                   with(right, 9, "\xff"),
		"nothing":                     "",
	}
	for why, s := range cases {
		for _, half := range []int{0, 1} {
			d := diskOf(t, 10, map[int]string{
				half * 5:   page(3, 0, 1, recs("a")),
				half*5 + 1: s,
				half*5 + 2: page(3, 2, 0, recs("c")),
			})
			want := state{[]string{"a"}, 1, 1, 4, half, 4}
			got := stateOf(open(t, d))
			want.age = got.age
			if !same(got, want) {
				t.Errorf("%s in half %d: %s", why, half, got.short())
			}
		}
	}
	// the same with page 0: such a half has no age, and no pages
	right = page(3, 0, 1, recs("b"))
	for why, s := range map[string]string{
		"an age of 0":                page(0, 0, 1, recs("b")),
		"a second age that differs":  with(right, endMark, "\x04"),
		"another number":             page(3, 1, 1, recs("b")),
		"a second number":            with(right, endMark+6, "\x01"),
		"a third byte of 2":          with(right, 8, "\x02"),
		"no record at its beginning": with(right, 8, "\x00"),
		"235 bytes":                  with(right, 9, "\xeb"),
		"nothing":                    "",
	} {
		for _, half := range []int{0, 1} {
			d := diskOf(t, 10, map[int]string{half * 5: s, half*5 + 1: page(3, 1, 1, recs("c"))})
			got := stateOf(open(t, d))
			if want := (state{room: 5, age: got.age}); !same(got, want) {
				t.Errorf("page 0, %s in half %d: %s", why, half, got.short())
			}
		}
	}
}

// P6.1: a leaf in all but its sum is none.
func TestWrongSum(t *testing.T) {
	for at := range 2 {
		d := newDisk(t, 8)
		for i := range 3 {
			d.Write(i, page(3, i, 1, recs(x(200))))
		}
		d.Sync()
		d.Write(at, page(3, at, 1, recs(strings.Repeat("y", 200)))) // its second half stays the old one's, with its sum
		d.Crash([]int{disk.Torn})
		if s := d.Raw(at); s[:8] != s[endMark:252] {
			t.Fatal("the page's ages differ")
		}
		got := stateOf(open(t, d))
		want := state{room: 4 - at, pages: at, sure: at, age: 4}
		if at == 1 {
			want.records = []string{x(200)}
		}
		if !same(got, want) {
			t.Errorf("page %d has a wrong sum: %s", at, got.short())
		}
	}
}

// P6.1: a leaf of 234 bytes, of 1 and of none is one.
func TestLeafCounts(t *testing.T) {
	for _, n := range []int{0, 1, 2, 3, 233, room} {
		text := recs(x(700)) // what goes over more leaves than one
		d := diskOf(t, 20, map[int]string{
			0: page(2, 0, 1, text[:n]),
			1: page(2, 1, 0, text[n:n+room]),
			2: page(2, 2, 0, text[n+room:n+2*room]),
			3: page(2, 3, 0, text[n+2*room:min(n+3*room, len(text))]),
			4: page(2, 4, 0, text[min(n+3*room, len(text)):]),
		})
		tells(t, open(t, d), state{[]string{x(700)}, 1, 5, 5, 0, 3})
	}
	// bytes behind those that a leaf has are none of its
	s := page(2, 0, 1, recs("a")+recs("b"))
	d := diskOf(t, 4, map[int]string{0: with(s, 9, "\x04")})
	tells(t, open(t, d), state{[]string{"a"}, 1, 1, 1, 0, 3})
}

// P6.1: a record that is longer than any that is appended is one too, where it stands whole.
func TestLongRecordFound(t *testing.T) {
	text := recs(x(longest + 1))
	have := map[int]string{}
	for i := 0; i*room < len(text); i++ {
		have[i] = page(1, i, 1, text[i*room:min((i+1)*room, len(text))])
	}
	tells(t, open(t, diskOf(t, 1000, have)), state{[]string{x(longest + 1)}, 1, len(have), 500 - len(have), 0, 2})
}

// P6.1: leaves whose age falls, is the same, or is greater, with and without a record's beginning.
func TestAgesFromPageToPage(t *testing.T) {
	for _, c := range []struct {
		age, begins int
		goesOn      bool
	}{
		{5, 0, true}, {5, 1, true}, {4, 0, false}, {4, 1, false}, {1, 1, false},
		{6, 0, false}, {6, 1, true}, {1000, 0, false}, {1000, 1, true}, {1<<40 - 1, 1, true}, {1<<40 - 1, 0, false},
	} {
		d := diskOf(t, 10, map[int]string{
			0: page(5, 0, 1, recs("a")),
			1: page(c.age, 1, c.begins, recs("b")),
			2: page(max(c.age, 5), 2, 0, recs("c")),
		})
		want := state{[]string{"a"}, 1, 1, 4, 0, max(c.age, 5) + 1}
		if c.goesOn {
			want = state{[]string{"a", "b", "c"}, 3, 3, 2, 0, c.age + 1}
		}
		tells(t, open(t, d), want)
	}
	// the age of the page ahead is what counts, not the half's
	d := diskOf(t, 12, map[int]string{
		0: page(5, 0, 1, recs("a")),
		1: page(7, 1, 1, recs("b")),
		2: page(9, 2, 1, recs("c")),
		3: page(8, 3, 1, recs("d")),
		4: page(9, 4, 1, recs("e")),
	})
	tells(t, open(t, d), state{[]string{"a", "b", "c"}, 3, 3, 3, 0, 10})
}

// P6.1: what is no whole record ahead of a greater age is left out, and what is not at the end is no record; where the age is the same nothing is left out.
func TestLeftOut(t *testing.T) {
	long := recs(x(300))
	for why, c := range map[string]struct {
		have  map[int]string
		want  []string
		pages int
	}{
		"a record cut behind its length": {map[int]string{
			0: page(1, 0, 1, recs("a")+"\x05\x00\x00"),
			1: page(2, 1, 1, recs("b")),
		}, []string{"a", "b"}, 2},
		"a record cut within its length": {map[int]string{
			0: page(1, 0, 1, recs("a")+"\x05\x00"),
			1: page(2, 1, 1, recs("b")),
		}, []string{"a", "b"}, 2},
		"a record cut behind its first byte": {map[int]string{
			0: page(1, 0, 1, recs("a")+"\x01"),
			1: page(2, 1, 1, recs("b")),
		}, []string{"a", "b"}, 2},
		"a record that lacks its last byte": {map[int]string{
			0: page(1, 0, 1, recs("a")+recs("abc")[:5]),
			1: page(2, 1, 1, recs("b")),
		}, []string{"a", "b"}, 2},
		"cut over two leaves": {map[int]string{
			0: page(1, 0, 1, recs(x(900))[:room]),
			1: page(1, 1, 0, recs(x(900))[room:2*room]),
			2: page(2, 2, 1, recs("b")),
		}, []string{"b"}, 3},
		"cut again and again": {map[int]string{
			0: page(1, 0, 1, long[:room]),
			1: page(2, 1, 1, long[:room]),
			2: page(3, 2, 1, recs("a")+"\x01"),
			3: page(4, 3, 1, "\x02"),
			4: page(5, 4, 1, recs("b")+"\x03\x00\x00ab"),
		}, []string{"a", "b"}, 5},
		"cut at the end": {map[int]string{
			0: page(1, 0, 1, recs("a")),
			1: page(2, 1, 1, long[:room]),
		}, []string{"a"}, 2},
		"whole over an age that is the same, though a record is said to begin": {map[int]string{
			0: page(1, 0, 1, long[:room]),
			1: page(1, 1, 1, long[room:]+recs("b")),
		}, []string{x(300), "b"}, 2},
		"not whole over a greater age": {map[int]string{
			0: page(1, 0, 1, long[:room]),
			1: page(2, 1, 1, long[room:]),
		}, nil, 2},
		"a length over two leaves": {map[int]string{
			0: page(1, 0, 1, recs("a")+"\x02"),
			1: page(1, 1, 0, "\x00"),
			2: page(1, 2, 0, "\x00cd"+recs("e")),
		}, []string{"a", "cd", "e"}, 3},
		"leaves without bytes": {map[int]string{
			0: page(1, 0, 1, ""),
			1: page(2, 1, 1, ""),
			2: page(2, 2, 0, recs("a")),
			3: page(3, 3, 1, ""),
		}, []string{"a"}, 4},
		"whole records, and a greater age": {map[int]string{
			0: page(1, 0, 1, recs("a", "b", "c")),
			1: page(2, 1, 1, recs("d", "e")),
		}, []string{"a", "b", "c", "d", "e"}, 2},
		"records without bytes, which no Append makes": {map[int]string{
			0: page(1, 0, 1, recs("", "a", "")),
			1: page(2, 1, 1, recs("")),
		}, []string{"", "a", "", ""}, 2},
		"a length that no half has room for": {map[int]string{
			0: page(1, 0, 1, recs("a")+"\xff\xff\xffabc"),
			1: page(1, 1, 0, recs("b")),
		}, []string{"a"}, 2},
	} {
		age := 0
		for _, s := range c.have {
			age = max(age, int(s[0])+1)
		}
		for _, half := range []int{0, 1} {
			have := map[int]string{}
			for i, s := range c.have {
				have[half*6+i] = s
			}
			got := stateOf(open(t, diskOf(t, 12, have)))
			want := state{c.want, len(c.want), c.pages, 6 - c.pages, half, age}
			if c.want == nil && half == 1 { // a half without records is taken, if it is half 0, alone
				want.half, want.pages, want.room = 0, 0, 6
			}
			if !same(got, want) {
				t.Errorf("%s in half %d: %s; want %s", why, half, got.short(), want.short())
			}
		}
	}
}

// P6.1: which half it is, with both ages, one, and none, and where one has no records.
func TestWhichHalf(t *testing.T) {
	cut := recs(x(300))[:room]
	type half []string
	some := func(age int, all ...string) half {
		h := half{}
		for i, s := range all {
			h = append(h, page(age, i, 1, recs(s)))
		}
		return h
	}
	for why, c := range map[string]struct {
		halves  [2]half
		want    []string
		in      int
		pages   int
		nextAge int
	}{
		"none":                                {[2]half{}, nil, 0, 0, 1},
		"half 0 alone":                        {[2]half{some(4, "a", "b"), nil}, []string{"a", "b"}, 0, 2, 5},
		"half 1 alone":                        {[2]half{nil, some(4, "a", "b")}, []string{"a", "b"}, 1, 2, 5},
		"half 0 the greater":                  {[2]half{some(5, "a"), some(4, "b", "c")}, []string{"a"}, 0, 1, 6},
		"half 1 the greater":                  {[2]half{some(4, "a", "b"), some(5, "c")}, []string{"c"}, 1, 1, 6},
		"much greater":                        {[2]half{some(255, "a", "b"), some(256, "c")}, []string{"c"}, 1, 1, 257},
		"half 1 greater, without records":     {[2]half{some(4, "a"), {page(5, 0, 1, cut)}}, []string{"a"}, 0, 1, 6},
		"half 0 greater, without records":     {[2]half{{page(5, 0, 1, cut)}, some(4, "a")}, []string{"a"}, 1, 1, 6},
		"half 0 smaller, without records":     {[2]half{{page(3, 0, 1, cut)}, some(4, "a")}, []string{"a"}, 1, 1, 5},
		"half 0 without records":              {[2]half{{page(5, 0, 1, cut), page(5, 1, 0, "xx")}, nil}, nil, 0, 2, 6},
		"half 1 without records":              {[2]half{nil, {page(5, 0, 1, cut), page(5, 1, 0, "xx")}}, nil, 0, 0, 6},
		"both without records, half 0 older":  {[2]half{{page(3, 0, 1, cut)}, {page(5, 0, 1, cut), page(5, 1, 0, "xx")}}, nil, 0, 1, 6},
		"both without records, half 1 older":  {[2]half{{page(5, 0, 1, cut)}, {page(3, 0, 1, cut), page(3, 1, 0, "xx")}}, nil, 0, 1, 6},
		"half 0 without an age":               {[2]half{{page(5, 0, 0, recs("a"))}, some(4, "b")}, []string{"b"}, 1, 1, 6},
		"half 1 without an age":               {[2]half{some(4, "b"), {page(5, 0, 0, recs("a"))}}, []string{"b"}, 0, 1, 6},
		"half 0 grew older than half 1":       {[2]half{{page(3, 0, 1, recs("a")), page(9, 1, 1, recs("b"))}, some(5, "c")}, []string{"c"}, 1, 1, 10},
		"half 1 grew older than half 0":       {[2]half{some(5, "c"), {page(3, 0, 1, recs("a")), page(9, 1, 1, recs("b"))}}, []string{"c"}, 0, 1, 10},
		"half 1 grew and is the greater":      {[2]half{some(5, "c"), {page(6, 0, 1, recs("a")), page(9, 1, 1, recs("b"))}}, []string{"a", "b"}, 1, 2, 10},
		"half 1's record is of a later age":   {[2]half{some(5, "c"), {page(6, 0, 1, cut), page(9, 1, 1, recs("b"))}}, []string{"b"}, 1, 2, 10},
		"half 1's later record, of a low age": {[2]half{some(5, "c"), {page(4, 0, 1, cut), page(9, 1, 1, recs("b"))}}, []string{"c"}, 0, 1, 10},
	} {
		for _, pages := range []int{6, 7} {
			have := map[int]string{}
			for h, all := range c.halves {
				for i, s := range all {
					have[h*3+i] = s
				}
			}
			d := diskOf(t, pages, have)
			got := stateOf(open(t, d))
			if want := (state{c.want, len(c.want), c.pages, 3 - c.pages, c.in, c.nextAge}); !same(got, want) {
				t.Errorf("%s: %s; want %s", why, got.short(), want.short())
			}
		}
	}
}

// P6.1: the age is one more than the greatest number where a leaf has an age, at either place of any page, be it a leaf or not; one of 2^40 is too great.
func TestGreatestAge(t *testing.T) {
	six := func(n uint64) string { return string(binary.LittleEndian.AppendUint64(nil, n)[:6]) }
	blank := strings.Repeat("\x00", 252)
	for _, pages := range []int{4, 5, 9} {
		for at := range pages {
			for _, place := range []int{0, endMark} {
				for _, n := range []uint64{0, 1, 2, 255, 256, 1<<32 - 1, 1<<40 - 2, 1<<40 - 1, 1 << 40, 1<<40 + 1, 1 << 41, 1 << 47, 1<<48 - 1} {
					d := diskOf(t, pages, map[int]string{at: with(blank, place, six(n))})
					l, e := wal.Open(d)
					if n >= 1<<40 {
						if l != nil || e != api.ErrForm {
							t.Errorf("%d at %d of page %d: Open = %v, %d; want none, %d", n, place, at, l, e, api.ErrForm)
						}
						continue
					}
					if e != api.OK || !same(stateOf(l), state{room: pages / 2, age: int(n) + 1}) {
						t.Errorf("%d at %d of page %d: Open = %d, age %d", n, place, at, e, l.Age())
					}
				}
			}
			// no other place of a page tells an age
			d := diskOf(t, pages, map[int]string{at: six(5) + strings.Repeat("\xff", endMark-6) + six(3) + "\xff\xff"})
			if l := open(t, d); l.Age() != 6 {
				t.Errorf("page %d: age %d; want 6", at, l.Age())
			}
		}
	}
	for _, number := range []int{0, 1} { // a leaf, and a page that has another one's number
		for _, at := range []int{0, 4} {
			d := diskOf(t, 8, map[int]string{at: page(1<<40-1, number, 1, recs("a"))})
			l := open(t, d)
			if l.Age() != 1<<40 || len(l.Records()) != 1-number {
				t.Errorf("a leaf of the greatest age: %s", stateOf(l).short())
			}
			turns(t, l, "t") // of a Turn's age nothing is said but that it is one more
			if l.Age() != 1<<40+1 {
				t.Errorf("behind a Turn the age is %d", l.Age())
			}
			d = diskOf(t, 8, map[int]string{at: page(1<<40, number, 1, recs("a"))})
			if l, e := wal.Open(d); l != nil || e != api.ErrForm {
				t.Errorf("a leaf of too great an age: %v, %d", l, e)
			}
		}
	}
}

// P6.1: pages are asked as they stand: a torn page's ages count, at both places, and writes that were not synced do.
func TestAgeOfTornPages(t *testing.T) {
	for _, c := range []struct{ was, now, want int }{{3, 8, 9}, {8, 3, 9}, {1<<40 - 1, 3, 1 << 40}, {3, 1<<40 - 1, 1 << 40}} {
		for at := range 9 {
			d := diskOf(t, 9, map[int]string{at: page(c.was, at%4, 1, recs("a"))})
			d.Write(at, page(c.now, at%4, 1, recs("b")))
			d.Crash([]int{disk.Torn})
			if _, e := d.Read(at); e != api.ErrSum {
				t.Fatalf("page %d is not torn: %d", at, e)
			}
			got := stateOf(open(t, d))
			if want := (state{room: 4, age: c.want}); !same(got, want) {
				t.Errorf("page %d torn between %d and %d: %s", at, c.now, c.was, got.short())
			}
		}
	}
	for _, c := range [][2]int{{1 << 40, 3}, {3, 1 << 40}} {
		d := diskOf(t, 4, map[int]string{3: page(c[0], 1, 1, recs("a"))})
		d.Write(3, page(c[1], 1, 1, recs("b")))
		d.Crash([]int{disk.Torn})
		if l, e := wal.Open(d); l != nil || e != api.ErrForm {
			t.Errorf("a page torn between %d and %d: %v, %d; want none, %d", c[1], c[0], l, e, api.ErrForm)
		}
	}
	d := newDisk(t, 4)
	d.Write(0, page(6, 0, 1, recs("a")))
	tells(t, open(t, d), state{[]string{"a"}, 1, 1, 1, 0, 7})
	dirty(t, d, 0)
}

// P6.1: Open writes nothing, and syncs nothing.
func TestOpenWritesNothing(t *testing.T) {
	r := rand.New(rand.NewSource(61))
	for range 300 {
		d := newDisk(t, 1+r.Intn(12))
		for range r.Intn(20) {
			d.Write(r.Intn(d.Len()), chancePage(r))
			if r.Intn(4) == 0 {
				d.Sync()
			}
			if r.Intn(4) == 0 {
				d.Crash([]int{r.Intn(3), r.Intn(3), r.Intn(3)})
			}
		}
		wrote := d.Dirty()
		was := raws(d)
		lost := d.Copy()
		wal.Open(d)
		dirty(t, d, wrote...)
		if !slices.Equal(raws(d), was) {
			t.Fatal("Open has written")
		}
		d.Crash(nil)
		lost.Crash(nil)
		if !slices.Equal(raws(d), raws(lost)) {
			t.Fatal("Open has synced")
		}
	}
}

func raws(d *disk.Disk) []string {
	var all []string
	for i := range d.Len() {
		all = append(all, d.Raw(i))
	}
	return all
}

// chancePage is a leaf, or almost one, with a small age and number.
func chancePage(r *rand.Rand) string {
	var text string
	for len(text) < room && r.Intn(6) > 0 {
		s := recs(x(1 + r.Intn(150)))
		text += s[:min(len(s), room-len(text))]
	}
	s := page(r.Intn(4), r.Intn(4), r.Intn(2), text)
	if r.Intn(8) == 0 {
		places := []int{0, 6, 8, 9, endMark, endMark + 6}
		at := places[r.Intn(len(places))]
		s = with(s, at, string([]byte{byte(r.Intn(4))}))
	}
	return s
}

// R4: Append and Turn keep nothing of what they are handed.
func TestKeepsNothing(t *testing.T) {
	b := []byte("abcdef")
	s := unsafe.String(&b[0], len(b))
	d := newDisk(t, 8)
	l := open(t, d)
	takes(t, l, s)
	clear(b)
	if got := l.Records(); !slices.Equal(got, []string{"abcdef"}) {
		t.Errorf("Append has kept what it was handed: %q", got)
	}
	copy(b, "ABCDEF")
	writes(t, l)
	l.Sync()
	tells(t, open(t, d), state{[]string{"abcdef"}, 1, 1, 3, 0, 2})
	turns(t, l, s)
	clear(b)
	l.Sync()
	tells(t, l, state{[]string{"ABCDEF"}, 1, 1, 3, 1, 2})
	tells(t, open(t, d), state{[]string{"ABCDEF"}, 1, 1, 3, 1, 3})
}

// R4, P6.5: Records answers new memory each time, its spare room and its texts too.
func TestRecordsIsNew(t *testing.T) {
	d := newDisk(t, 40)
	first := open(t, d)
	want := []string{}
	for i := range 40 {
		s := strings.Repeat("r", i+1)
		want = append(want, s)
		takes(t, first, s)
	}
	writes(t, first)
	first.Sync()
	turned := open(t, diskOf(t, 8, nil))
	turns(t, turned, strings.Repeat("r", 300))
	turned.Sync()
	for why, l := range map[string]*wal.Log{"appended": first, "found": open(t, d), "turned": turned} {
		all := want
		if why == "turned" {
			all = []string{strings.Repeat("r", 300)}
		}
		a, b := l.Records(), l.Records()
		spoilt := a[:cap(a)]
		for i := range a {
			if unsafe.StringData(a[i]) == unsafe.StringData(b[i]) {
				t.Errorf("%s: text %d of two answers is the same memory", why, i)
			}
			bytes := unsafe.Slice(unsafe.StringData(a[i]), len(a[i]))
			for j := range bytes {
				bytes[j] = 'z'
			}
		}
		for i := range spoilt {
			spoilt[i] = "spoilt"
		}
		if !slices.Equal(b, all) {
			t.Errorf("%s: an answer is spoilt by another one's memory", why)
		}
		if got := l.Records(); !slices.Equal(got, all) {
			t.Errorf("%s: the log is spoilt by an answer's memory", why)
		}
		if n, e := l.Append("more"); n != len(all)+1 || e != api.OK {
			t.Errorf("%s: Append = %d, %d", why, n, e)
		}
		if !slices.Equal(b, all) || !slices.Equal(l.Records(), append(slices.Clone(all), "more")) {
			t.Errorf("%s: an answer grows with the log", why)
		}
	}
}

// model is a log by the document's words, on a disk of its own; it keeps the leaves' bytes apart, and works all else out of its lists.
type model struct {
	d                    *disk.Disk
	half, age, pages     int
	found, unsure, waits []string // sure; written; not written
	turned               bool
	turn                 string
}

// modelHalf is the records, pages and age of a half, worked out in parts: first which pages, then their bytes by age, then records.
func modelHalf(d *disk.Disk, half int) (records []string, pages, age int) {
	size := d.Len() / 2
	type part struct {
		age  int
		text string
	}
	var parts []part
	for i := 0; i < size; i++ {
		s, e := d.Read(half*size + i)
		if e != api.OK {
			break
		}
		b := []byte(s)
		age1 := int(binary.LittleEndian.Uint64(b) & (1<<48 - 1))
		age2 := int(binary.LittleEndian.Uint64(b[endMark:]) & (1<<48 - 1))
		num1 := int(binary.LittleEndian.Uint16(b[6:]))
		num2 := int(binary.LittleEndian.Uint16(b[endMark+6:]))
		if age1 != age2 || num1 != num2 || age1 == 0 || num1 != i || b[8] > 1 || b[9] > room {
			break
		}
		if i == 0 && b[8] == 0 {
			break
		}
		if i > 0 && age1 < parts[len(parts)-1].age {
			break
		}
		if i > 0 && age1 > parts[len(parts)-1].age && b[8] == 0 {
			break
		}
		parts = append(parts, part{age1, s[10 : 10+int(b[9])]})
	}
	for i := 0; i < len(parts); {
		text := ""
		first := parts[i].age
		for ; i < len(parts) && parts[i].age == first; i++ {
			text += parts[i].text
		}
		for len(text) >= 3 {
			n := int(text[0]) + int(text[1])*256 + int(text[2])*65536
			if 3+n > len(text) {
				break
			}
			records = append(records, text[3:3+n])
			text = text[3+n:]
		}
	}
	if len(parts) > 0 {
		age = parts[0].age
	}
	return records, len(parts), age
}

func modelOpen(d *disk.Disk) (*model, api.Errno) {
	if d.Len() < 4 {
		return nil, api.ErrArg
	}
	m := &model{d: d}
	for i := range d.Len() {
		b := []byte(d.Raw(i))
		for _, at := range []int{0, endMark} {
			m.age = max(m.age, int(binary.LittleEndian.Uint64(b[at:])&(1<<48-1)))
		}
	}
	if m.age >= 1<<40 {
		return nil, api.ErrForm
	}
	m.age++
	r0, p0, a0 := modelHalf(d, 0)
	r1, p1, a1 := modelHalf(d, 1)
	m.found, m.pages = r0, p0
	if len(r1) > 0 && (len(r0) == 0 || a1 > a0) {
		m.half, m.found, m.pages = 1, r1, p1
	}
	return m, api.OK
}

func (m *model) state() state {
	all := slices.Concat(m.found, m.unsure, m.waits)
	return state{all, len(m.found), m.pages, m.d.Len()/2 - m.pages, m.half, m.age}
}

func (m *model) append(s string) (int, api.Errno) {
	switch {
	case len(s) == 0 || len(s) > longest:
		return 0, api.ErrArg
	case m.turned:
		return 0, api.ErrState
	case len(recs(append(slices.Clone(m.waits), s)...)) > (m.d.Len()/2-m.pages)*room:
		return 0, api.ErrFull
	}
	m.waits = append(m.waits, s)
	return len(m.state().records), api.OK
}

// lay writes leaves: how many.
func (m *model) lay(half, from int, text string) int {
	n := 0
	for i := 0; i*room < len(text); i++ {
		begins := 0
		if i == 0 {
			begins = 1
		}
		m.d.Write(half*(m.d.Len()/2)+from+i, page(m.age, from+i, begins, text[i*room:min((i+1)*room, len(text))]))
		n++
	}
	return n
}

func (m *model) write() api.Errno {
	if m.turned {
		return api.ErrState
	}
	m.pages += m.lay(m.half, m.pages, recs(m.waits...))
	m.unsure = append(m.unsure, m.waits...)
	m.waits = nil
	return api.OK
}

func (m *model) sync() {
	m.d.Sync()
	m.found = append(m.found, m.unsure...)
	m.unsure = nil
	if m.turned {
		m.half, m.turned = 1-m.half, false
		m.found = []string{m.turn}
		m.pages = (len(m.turn) + 3 + room - 1) / room
	}
}

func (m *model) doTurn(s string) api.Errno {
	switch {
	case len(s) == 0 || len(s) > longest:
		return api.ErrArg
	case len(m.waits)+len(m.unsure) > 0 || m.turned:
		return api.ErrState
	case len(s)+3 > m.d.Len()/2*room:
		return api.ErrFull
	}
	m.age++
	m.lay(1-m.half, 0, recs(s))
	m.turned, m.turn = true, s
	return api.OK
}

// chanceRecord has few bytes mostly, and sometimes about as many as some leaves, or as the room that is left, have.
func chanceRecord(r *rand.Rand, left int) string {
	n := 0
	switch r.Intn(10) {
	case 0:
		n = left*room - 3 + r.Intn(4) - 2
	case 1:
		n = room*(1+r.Intn(3)) - 3 + r.Intn(5) - 2
	case 2, 3:
		n = r.Intn(700)
	default:
		n = r.Intn(40)
	}
	b := make([]byte, max(n, 0))
	r.Read(b)
	return string(b)
}

// chanceFates lets a crash begin with writes that are kept most of the time, so that much is found.
func chanceFates(r *rand.Rand, n int) []int {
	fates := []int{}
	kept := r.Intn(n + 1)
	for i := range n {
		if i < kept && r.Intn(5) > 0 {
			fates = append(fates, disk.Kept)
		} else {
			fates = append(fates, r.Intn(3))
		}
	}
	return fates
}

// P6.1 to P6.5: calls in rows, with crashes between, tell what the model tells, and write what it writes.
func TestByChance(t *testing.T) {
	for seed := range int64(400) {
		r := rand.New(rand.NewSource(seed))
		d := newDisk(t, 4+r.Intn(12))
		l := open(t, d)
		m, _ := modelOpen(d.Copy())
		for step := range 150 {
			what := chanceCall(t, r, &l, &m, &d)
			if got, want := stateOf(l), m.state(); !same(got, want) {
				t.Fatalf("seed %d, step %d, %s:\n%s; want\n%s", seed, step, what, got.short(), want.short())
			}
			if !slices.Equal(raws(d), raws(m.d)) || !slices.Equal(d.Dirty(), m.d.Dirty()) {
				t.Fatalf("seed %d, step %d, %s: the disk is another one", seed, step, what)
			}
		}
	}
}

// chanceCall does one thing to a log, and to its model.
func chanceCall(t *testing.T, r *rand.Rand, l **wal.Log, m **model, d **disk.Disk) string {
	t.Helper()
	s := chanceRecord(r, (*l).Room())
	switch n := r.Intn(20); {
	case n < 8:
		got, e := (*l).Append(s)
		if want, f := (*m).append(s); got != want || e != f {
			t.Fatalf("Append of %d bytes = %d, %d; want %d, %d", len(s), got, e, want, f)
		}
		return "Append"
	case n < 12:
		if e, f := (*l).Write(), (*m).write(); e != f {
			t.Fatalf("Write = %d; want %d", e, f)
		}
		return "Write"
	case n < 15:
		(*l).Sync()
		(*m).sync()
		return "Sync"
	case n < 17:
		if e, f := (*l).Turn(s), (*m).doTurn(s); e != f {
			t.Fatalf("Turn of %d bytes = %d; want %d", len(s), e, f)
		}
		return "Turn"
	case n < 18:
		return reopen(t, l, m, *d) // without a crash
	}
	fates := chanceFates(r, len((*d).Dirty()))
	(*d).Crash(fates)
	(*m).d.Crash(fates)
	return reopen(t, l, m, *d)
}

func reopen(t *testing.T, l **wal.Log, m **model, d *disk.Disk) string {
	t.Helper()
	*l = open(t, d)
	next, e := modelOpen((*m).d)
	if e != api.OK {
		t.Fatal(e)
	}
	*m = next
	return "Open"
}

// P6.1: disks of odd pages, by chance.
func TestOpenByChance(t *testing.T) {
	for seed := range int64(6000) {
		r := rand.New(rand.NewSource(seed))
		d := newDisk(t, 1+r.Intn(12))
		half := max(d.Len()/2, 1)
		age := 1 + r.Intn(3)
		for i := range d.Len() {
			age += []int{0, 0, 0, 1, 2, -1}[r.Intn(6)]
			s := chancePage(r)
			if r.Intn(8) > 0 { // most often a leaf that is where it should be
				mark := page(max(age, 0), i%half, 0, "")
				s = with(with(s, 0, mark[:8]), endMark, mark[endMark:])
			}
			if i%half == 0 && r.Intn(6) > 0 {
				s = with(s, 8, "\x01")
			}
			d.Write(i, s)
		}
		d.Sync()
		l, e := wal.Open(d)
		m, f := modelOpen(d)
		if e != f {
			t.Fatalf("seed %d: Open = %d; want %d", seed, e, f)
		}
		if e != api.OK {
			if l != nil {
				t.Fatalf("seed %d: a log beside an error", seed)
			}
			continue
		}
		if got, want := stateOf(l), m.state(); !same(got, want) {
			t.Fatalf("seed %d:\n%s; want\n%s", seed, got.short(), want.short())
		}
	}
}

// life is what P6.6 is about, and no more: what is sure, what was written behind it, and a Turn without a Sync.
type life struct {
	sure, written []string
	turn          []string // one, or none
}

// may tells whether records are such as may be there behind a crash.
func (f life) may(got []string) bool {
	if len(f.turn) > 0 && slices.Equal(got, f.turn) {
		return true
	}
	all := slices.Concat(f.sure, f.written)
	return len(got) >= len(f.sure) && len(got) <= len(all) && slices.Equal(got, all[:len(got)])
}

// each calls yield with all rows of n fates; behind too many writes with some of them.
func each(r *rand.Rand, n int, yield func([]int)) {
	if n > 5 {
		for range 40 {
			yield(chanceFates(r, n))
		}
		return
	}
	rows := 1
	for range n {
		rows *= 3
	}
	for row := range rows {
		fates := []int{}
		for range n {
			fates = append(fates, row%3)
			row /= 3
		}
		yield(fates)
	}
}

// P6.6: behind any call, and any crash there: the records that were sure, and first ones of those that were written; or a Turn's record alone. And all of that again in the lives that follow.
func TestCrashes(t *testing.T) {
	for seed := range int64(60) {
		r := rand.New(rand.NewSource(1000 + seed))
		d := newDisk(t, 4+r.Intn(10))
		l := open(t, d)
		var now life
		for step := range 60 {
			now = liveOn(r, l, now)
			each(r, len(d.Dirty()), func(fates []int) {
				c := d.Copy()
				c.Crash(fates)
				next := open(t, c)
				if got := next.Records(); !now.may(got) {
					t.Fatalf("seed %d, step %d, fates %v: there is %s", seed, step, fates, stateOf(next).short())
				}
				if next.Sure() != len(next.Records()) {
					t.Fatalf("seed %d, step %d: of %d records %d are sure", seed, step, len(next.Records()), next.Sure())
				}
			})
			if r.Intn(5) == 0 {
				d.Crash(chanceFates(r, len(d.Dirty())))
				was := now
				l = open(t, d)
				now = life{sure: l.Records()}
				if !was.may(now.sure) {
					t.Fatalf("seed %d, step %d: there is %s", seed, step, stateOf(l).short())
				}
			}
		}
	}
}

// liveOn does one thing to a log: what may be behind a crash then.
func liveOn(r *rand.Rand, l *wal.Log, now life) life {
	s := chanceRecord(r, l.Room())
	switch r.Intn(8) {
	case 0, 1, 2:
		l.Append(s)
	case 3, 4:
		if l.Write() == api.OK {
			now.written = l.Records()[len(now.sure):]
		}
	case 5:
		l.Sync()
		now.sure = slices.Concat(now.sure, now.written)
		if len(now.turn) > 0 {
			now.sure = now.turn
		}
		now.written, now.turn = nil, nil
	case 6, 7:
		if l.Turn(s) == api.OK {
			now.turn = []string{s}
		}
	}
	return now
}

// P6.6: with all writes kept all is there, with all lost what was sure alone; of a Turn likewise; with its last page lost, or torn, the old half is there.
func TestCrashWhole(t *testing.T) {
	d := newDisk(t, 12)
	l := open(t, d)
	takes(t, l, "a")
	writes(t, l)
	l.Sync()
	takes(t, l, x(500))
	takes(t, l, "b")
	writes(t, l)
	takes(t, l, "c")
	crashed := func(fates ...int) *wal.Log {
		c := d.Copy()
		c.Crash(fates)
		return open(t, c)
	}
	tells(t, crashed(), state{[]string{"a"}, 1, 1, 5, 0, 2})
	tells(t, crashed(1, 1, 1), state{[]string{"a", x(500), "b"}, 3, 4, 2, 0, 2})
	tells(t, crashed(1, 1, 2), state{[]string{"a"}, 1, 3, 3, 0, 2})
	tells(t, crashed(1, 1, 0), state{[]string{"a"}, 1, 3, 3, 0, 2})
	tells(t, crashed(1, 0, 1), state{[]string{"a"}, 1, 2, 4, 0, 2})
	tells(t, crashed(0, 1, 1), state{[]string{"a"}, 1, 1, 5, 0, 2})
	tells(t, crashed(2, 1, 1), state{[]string{"a"}, 1, 1, 5, 0, 2})
	writes(t, l)
	l.Sync()
	all := []string{"a", x(500), "b", "c"}
	turns(t, l, x(300))
	tells(t, crashed(), state{all, 4, 5, 1, 0, 2})
	tells(t, crashed(1, 1), state{[]string{x(300)}, 1, 2, 4, 1, 3})
	tells(t, crashed(1, 0), state{all, 4, 5, 1, 0, 3})
	tells(t, crashed(1, 2), state{all, 4, 5, 1, 0, 3})
	tells(t, crashed(0, 1), state{all, 4, 5, 1, 0, 3})
	tells(t, crashed(2, 1), state{all, 4, 5, 1, 0, 3})
	tells(t, crashed(2, 2), state{all, 4, 5, 1, 0, 3})
}

// P6.6: a page torn between two leaves whose sum is right by chance is none, for its ages differ: here its sum is made right.
func TestTornWithRightSum(t *testing.T) {
	old := page(3, 1, 1, recs(x(200)))
	now := page(5, 1, 1, recs(strings.Repeat("y", 200)))
	d := diskOf(t, 8, map[int]string{
		0: page(3, 0, 1, recs("a")),
		1: now[:128] + old[128:],
		2: page(5, 2, 1, recs("b")),
	})
	tells(t, open(t, d), state{[]string{"a"}, 1, 1, 3, 0, 6})
}

// P6.1, P6.4: no age comes twice: each is greater than all that stand on the disk, and what was lost does not come back.
func TestNoAgeTwice(t *testing.T) {
	for seed := range int64(100) {
		r := rand.New(rand.NewSource(2000 + seed))
		d := newDisk(t, 4+r.Intn(6))
		l := open(t, d)
		greatest := func() int {
			most := 0
			for i := range d.Len() {
				b := []byte(d.Raw(i))
				most = max(most, int(b[0])+int(b[1])<<8, int(b[endMark])+int(b[endMark+1])<<8)
			}
			return most
		}
		for range 80 {
			age, most := l.Age(), greatest()
			if most > age {
				t.Fatalf("seed %d: an age of %d stands on the disk of a log whose age is %d", seed, most, age)
			}
			switch s := chanceRecord(r, l.Room()); r.Intn(7) {
			case 0, 1:
				l.Append(s)
			case 2:
				l.Write()
			case 3:
				l.Sync()
			case 4, 5:
				if l.Turn(s) == api.OK && (l.Age() != age+1 || greatest() != age+1) {
					t.Fatalf("seed %d: a Turn at age %d leads to %d", seed, age, l.Age())
				}
				continue
			case 6:
				d.Crash(chanceFates(r, len(d.Dirty())))
				most = greatest()
				l = open(t, d)
				if l.Age() != most+1 {
					t.Fatalf("seed %d: Open's age is %d behind %d", seed, l.Age(), most)
				}
				continue
			}
			if l.Age() != age {
				t.Fatalf("seed %d: the age grows from %d to %d without a Turn", seed, age, l.Age())
			}
		}
	}
}

// P6.1, P6.6: what one life has written ahead of a hole is written over by the next one, and never found behind it.
func TestHoles(t *testing.T) {
	d := newDisk(t, 20)
	l := open(t, d)
	for _, s := range []string{"a", "b", "c", "d"} {
		takes(t, l, s)
		writes(t, l)
	}
	d.Crash([]int{1, 0, 1, 1})
	l = open(t, d)
	tells(t, l, state{[]string{"a"}, 1, 1, 9, 0, 2})
	takes(t, l, "e")
	writes(t, l)
	l.Sync()
	l = open(t, d)
	tells(t, l, state{[]string{"a", "e"}, 2, 2, 8, 0, 3})
	// a record that goes over the leaves of the old life, and is cut there
	takes(t, l, x(600))
	writes(t, l)
	dirty(t, d, 2, 3, 4)
	d.Crash([]int{1, 0, 1})
	l = open(t, d)
	tells(t, l, state{[]string{"a", "e"}, 2, 3, 7, 0, 4})
	takes(t, l, "f")
	writes(t, l)
	l.Sync()
	tells(t, open(t, d), state{[]string{"a", "e", "f"}, 3, 4, 6, 0, 5})
}

// P6.1: where no half has a record half 0's pages are not written over.
func TestWithoutRecords(t *testing.T) {
	d := newDisk(t, 8)
	l := open(t, d)
	takes(t, l, x(700))
	writes(t, l)
	d.Crash([]int{1, 1, 1, 0})
	l = open(t, d)
	tells(t, l, state{nil, 0, 3, 1, 0, 2})
	if n, e := l.Append(x(room - 2)); n != 0 || e != api.ErrFull {
		t.Errorf("Append = %d, %d", n, e)
	}
	takes(t, l, "a")
	writes(t, l)
	dirty(t, d, 3)
	l.Sync()
	tells(t, open(t, d), state{[]string{"a"}, 1, 4, 0, 0, 3})
	// full of what is no record it can turn still
	have := map[int]string{}
	for i := range 2 {
		have[i] = page(1, i, 1-i, recs(x(1000))[i*room:(i+1)*room])
	}
	d = diskOf(t, 4, have)
	l = open(t, d)
	tells(t, l, state{nil, 0, 2, 0, 0, 2})
	if n, e := l.Append("a"); n != 0 || e != api.ErrFull {
		t.Errorf("Append = %d, %d", n, e)
	}
	turns(t, l, "t")
	l.Sync()
	tells(t, l, state{[]string{"t"}, 1, 1, 1, 1, 3})
	tells(t, open(t, d), state{[]string{"t"}, 1, 1, 1, 1, 4})
}

// R5: two logs on copies of a disk go their own ways, and each tells what its own disk has.
func TestTwoLogs(t *testing.T) {
	d := newDisk(t, 8)
	l := open(t, d)
	takes(t, l, "a")
	writes(t, l)
	l.Sync()
	c := d.Copy()
	m := open(t, c)
	takes(t, m, "b")
	takes(t, l, "c")
	writes(t, m)
	tells(t, l, state{[]string{"a", "c"}, 1, 1, 3, 0, 1})
	tells(t, m, state{[]string{"a", "b"}, 1, 2, 2, 0, 2})
	dirty(t, d)
	dirty(t, c, 1)
}
