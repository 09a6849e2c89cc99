package shelf_test

import (
	"fmt"
	"math/rand"
	"slices"
	"strings"
	"testing"

	"budwood/api"
	"budwood/shelf"
)

// page is a page as the document's words have it.
type page struct {
	taken bool
	bytes string
}

// model is all pages, to hold a shelf against.
type model []page

func (m model) has(i int) bool { return i >= 0 && i < len(m) }

func (m model) taken() []int {
	all := []int{}
	for i, p := range m {
		if p.taken {
			all = append(all, i)
		}
	}
	return all
}

func (m model) take() (int, api.Errno) {
	for i := range m {
		if !m[i].taken {
			m[i] = page{taken: true}
			return i, api.OK
		}
	}
	return 0, api.ErrFull
}

func (m model) takeAt(i int) api.Errno {
	switch {
	case !m.has(i):
		return api.ErrArg
	case m[i].taken:
		return api.ErrTwice
	}
	m[i] = page{taken: true}
	return api.OK
}

// wrong is the error of a page that must be taken.
func (m model) wrong(i int) api.Errno {
	switch {
	case !m.has(i):
		return api.ErrArg
	case !m[i].taken:
		return api.ErrNone
	}
	return api.OK
}

func (m model) give(i int) api.Errno {
	e := m.wrong(i)
	if e == api.OK {
		m[i] = page{}
	}
	return e
}

func (m model) read(i int) (string, api.Errno) {
	if e := m.wrong(i); e != api.OK {
		return "", e
	}
	return m[i].bytes, api.OK
}

func (m model) write(i int, b string) api.Errno {
	if e := m.wrong(i); e != api.OK {
		return e
	}
	if len(b) >= 253 {
		return api.ErrBig
	}
	m[i].bytes = b
	return api.OK
}

func (m model) swap(a, b int) api.Errno {
	if e := m.wrong(a); e != api.OK {
		return e
	}
	if e := m.wrong(b); e != api.OK {
		return e
	}
	m[a], m[b] = m[b], m[a]
	return api.OK
}

func (m model) run(n int) (int, bool) {
	for i := 0; n >= 1 && i+n <= len(m); i++ {
		if !slices.ContainsFunc(m[i:i+n], func(p page) bool { return p.taken }) {
			return i, true
		}
	}
	return 0, false
}

// hold holds all that a shelf tells against a model.
func hold(t *testing.T, s *shelf.Shelf, m model) {
	t.Helper()
	taken := m.taken()
	if got := s.Taken(); !slices.Equal(got, taken) {
		t.Fatalf("Taken() = %v; want %v", got, taken)
	}
	if got := s.Free(); got != len(m)-len(taken) {
		t.Fatalf("Free() = %d; want %d", got, len(m)-len(taken))
	}
	if got := s.Len(); got != len(m) {
		t.Fatalf("Len() = %d; want %d", got, len(m))
	}
	for i := -2; i < len(m)+2; i++ {
		got, e := s.Read(i)
		if want, wantE := m.read(i); got != want || e != wantE {
			t.Fatalf("Read(%d) = %q, %d; want %q, %d", i, got, e, want, wantE)
		}
	}
	for _, n := range []int{-1, 0, 1, 2, 3, len(m) - 1, len(m), len(m) + 1} {
		at, is := s.Run(n)
		if wantAt, want := m.run(n); at != wantAt || is != want {
			t.Fatalf("Run(%d) = %d, %v, where %v are taken; want %d, %v", n, at, is, taken, wantAt, want)
		}
	}
}

// call is one that changes a shelf, with its arguments.
type call struct {
	name  string
	a, b  int
	bytes string
}

// told is what a call answers.
type told struct {
	page int
	e    api.Errno
}

func (c call) onShelf(s *shelf.Shelf) told {
	switch c.name {
	case "Take":
		i, e := s.Take()
		return told{i, e}
	case "TakeAt":
		return told{e: s.TakeAt(c.a)}
	case "Give":
		return told{e: s.Give(c.a)}
	case "Write":
		return told{e: s.Write(c.a, c.bytes)}
	}
	return told{e: s.Swap(c.a, c.b)}
}

func (c call) onModel(m model) told {
	switch c.name {
	case "Take":
		i, e := m.take()
		return told{i, e}
	case "TakeAt":
		return told{e: m.takeAt(c.a)}
	case "Give":
		return told{e: m.give(c.a)}
	case "Write":
		return told{e: m.write(c.a, c.bytes)}
	}
	return told{e: m.swap(c.a, c.b)}
}

// act does one call on both, and holds their answers against each other.
func act(t *testing.T, c call, s *shelf.Shelf, m model) {
	t.Helper()
	if got, want := c.onShelf(s), c.onModel(m); got != want {
		t.Fatalf("%s(%d, %d, %d bytes) of %d pages = %+v; want %+v", c.name, c.a, c.b, len(c.bytes), len(m), got, want)
	}
}

var names = []string{"Take", "TakeAt", "Give", "Write", "Swap", "Swap", "Write", "TakeAt"}

// byChance is some call: its pages may be none, its bytes may be too many.
func byChance(r *rand.Rand, pages int) call {
	c := call{name: names[r.Intn(len(names))], a: r.Intn(pages+2) - 1, b: r.Intn(pages+2) - 1}
	size := r.Intn(8)
	if r.Intn(6) == 0 {
		size = 249 + r.Intn(6)
	}
	bytes := make([]byte, size)
	r.Read(bytes)
	c.bytes = string(bytes)
	return c
}

// P12.1 to P12.5: many calls, one behind the other, and copies on the way.
func TestByChance(t *testing.T) {
	r := rand.New(rand.NewSource(12))
	for round := range 300 {
		n := 1 + r.Intn(9)
		if round%50 == 0 {
			n = 1 + r.Intn(api.MaxPages)
		}
		s, m := newShelf(t, n), make(model, n)
		for range 120 {
			act(t, byChance(r, n), s, m)
			if n < 10 {
				hold(t, s, m)
			}
			if r.Intn(10) == 0 {
				was, wasModel := s, slices.Clone(m)
				s = s.Copy()
				for range 3 { // what befalls the original is nothing to the copy
					act(t, byChance(r, n), was, wasModel)
				}
			}
		}
		hold(t, s, m)
	}
}

// everyCall calls f with each call of few pages, also of such as are none.
func everyCall(pages int, f func(c call)) {
	f(call{name: "Take"})
	for a := -1; a <= pages; a++ {
		f(call{name: "TakeAt", a: a})
		f(call{name: "Give", a: a})
		for _, bytes := range []string{"", "new", strings.Repeat("w", 252), strings.Repeat("w", 253)} {
			f(call{name: "Write", a: a, bytes: bytes})
		}
		for b := -1; b <= pages; b++ {
			f(call{name: "Swap", a: a, b: b})
		}
	}
}

// stateOf is a state by its number: each page is free, taken without bytes, or taken with bytes of its own.
func stateOf(t *testing.T, pages, number int) (*shelf.Shelf, model) {
	t.Helper()
	s, m := newShelf(t, pages), make(model, pages)
	for i := range m {
		if kind := number % 3; kind > 0 {
			act(t, call{name: "TakeAt", a: i}, s, m)
			if kind == 2 {
				act(t, call{name: "Write", a: i, bytes: fmt.Sprint("page ", i)}, s, m)
			}
		}
		number /= 3
	}
	return s, m
}

// P12.2 to P12.5: each call in each state of few pages: what is told, and what is there behind it, on a shelf and on its copy.
func TestEveryStep(t *testing.T) {
	states := 1
	for pages := 1; pages <= 4; pages++ {
		states *= 3
		for number := range states {
			everyCall(pages, func(c call) {
				s, m := stateOf(t, pages, number)
				other, was := s.Copy(), slices.Clone(m)
				act(t, c, s, m)
				hold(t, s, m)
				hold(t, other, was)
				act(t, c, other, was)
				hold(t, other, m)
			})
		}
	}
}

// R5: the same calls are told the same, and leave the same.
func TestSameAnswers(t *testing.T) {
	var first []told
	for again := range 20 {
		r := rand.New(rand.NewSource(5))
		s := newShelf(t, 40)
		var all []told
		for range 2000 {
			all = append(all, byChance(r, 40).onShelf(s))
		}
		for _, i := range s.Taken() {
			all = append(all, told{page: i})
		}
		if again == 0 {
			first = all
		}
		if !slices.Equal(all, first) {
			t.Fatalf("the %dth time other answers", again)
		}
	}
}
