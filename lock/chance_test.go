package lock_test

import (
	"fmt"
	"maps"
	"math/rand"
	"slices"
	"testing"

	"budwood/api"
	"budwood/lock"
	"budwood/mode"
)

// model is a table as the document's words have it, without any shorter way: all that hold, and all that wait, in the order of their queues.
type model struct {
	holds []claim
	waits []claim
}

type claim struct {
	owner int
	name  string
	mode  int
}

func (m *model) copied() *model {
	return &model{slices.Clone(m.holds), slices.Clone(m.waits)}
}

func (m *model) mode(owner int, name string) int {
	for _, h := range m.holds {
		if h.owner == owner && h.name == name {
			return h.mode
		}
	}
	return mode.None
}

func (m *model) waiting(owner int) (claim, bool) {
	for _, w := range m.waits {
		if w.owner == owner {
			return w, true
		}
	}
	return claim{}, false
}

func (m *model) canHave(c claim) bool {
	for _, h := range m.holds {
		if h.name == c.name && h.owner != c.owner && !mode.Fits(c.mode, h.mode) {
			return false
		}
	}
	return true
}

func (m *model) have(c claim) {
	m.cut(c.owner, c.name)
	m.holds = append(m.holds, c)
}

func (m *model) cut(owner int, name string) {
	m.holds = slices.DeleteFunc(m.holds, func(h claim) bool { return h.owner == owner && h.name == name })
}

func (m *model) behind(owner int) []int {
	w, is := m.waiting(owner)
	if !is {
		return nil
	}
	all := map[int]bool{}
	for _, h := range m.holds {
		if h.name == w.name && h.owner != owner && !mode.Fits(w.mode, h.mode) {
			all[h.owner] = true
		}
	}
	for _, o := range m.queue(w.name) {
		if o == owner {
			break
		}
		all[o] = true
	}
	return slices.Sorted(maps.Keys(all))
}

// loops grows the set of those behind whom an owner waits till it grows no more.
func (m *model) loops(owner int) bool {
	all := map[int]bool{}
	for _, o := range m.behind(owner) {
		all[o] = true
	}
	for {
		was := len(all)
		for _, o := range slices.Sorted(maps.Keys(all)) {
			for _, p := range m.behind(o) {
				all[p] = true
			}
		}
		if len(all) == was {
			return all[owner]
		}
	}
}

func (m *model) ask(owner int, name string, want int) api.Errno {
	if owner < 0 || want <= mode.None || want >= mode.Modes {
		return api.ErrArg
	}
	if _, is := m.waiting(owner); is {
		return api.ErrState
	}
	has := m.mode(owner, name)
	if has != mode.None {
		want = join(has, want)
	}
	if want == has {
		return api.OK
	}
	c := claim{owner, name, want}
	if m.canHave(c) && (has != mode.None || len(m.queue(name)) == 0) {
		m.have(c)
		return api.OK
	}
	at := len(m.waits)
	if has != mode.None {
		at = 0
		for i, w := range m.waits {
			if w.name == name && m.mode(w.owner, name) != mode.None {
				at = i + 1
			}
		}
	}
	was := m.copied()
	m.waits = slices.Insert(m.waits, at, c)
	if m.loops(owner) {
		*m = *was
		return api.ErrDead
	}
	return api.ErrWait
}

func (m *model) come(name string) []int {
	var came []int
	for {
		i := slices.IndexFunc(m.waits, func(w claim) bool { return w.name == name })
		if i < 0 || !m.canHave(m.waits[i]) {
			return came
		}
		m.have(m.waits[i])
		came = append(came, m.waits[i].owner)
		m.waits = slices.Delete(m.waits, i, i+1)
	}
}

func (m *model) free(owner int, name string) ([]int, api.Errno) {
	if m.mode(owner, name) == mode.None {
		return nil, api.ErrNone
	}
	if w, is := m.waiting(owner); is && w.name == name {
		return nil, api.ErrState
	}
	m.cut(owner, name)
	return m.come(name), api.OK
}

func (m *model) drop(owner int) []int {
	touched := map[string]bool{}
	for _, c := range slices.Concat(m.holds, m.waits) {
		if c.owner == owner {
			touched[c.name] = true
		}
	}
	mine := func(c claim) bool { return c.owner == owner }
	m.holds = slices.DeleteFunc(m.holds, mine)
	m.waits = slices.DeleteFunc(m.waits, mine)
	var came []int
	for _, name := range slices.Sorted(maps.Keys(touched)) {
		came = append(came, m.come(name)...)
	}
	return came
}

func (m *model) held(owner int) []lock.Hold {
	var all []lock.Hold
	for _, h := range m.holds {
		if h.owner == owner {
			all = append(all, lock.Hold{Name: h.name, Mode: h.mode})
		}
	}
	slices.SortFunc(all, func(a, b lock.Hold) int {
		if a.Name < b.Name {
			return -1
		}
		return 1
	})
	return all
}

func (m *model) holders(name string) []int {
	var all []int
	for _, h := range m.holds {
		if h.name == name {
			all = append(all, h.owner)
		}
	}
	slices.Sort(all)
	return all
}

func (m *model) queue(name string) []int {
	var all []int
	for _, w := range m.waits {
		if w.name == name {
			all = append(all, w.owner)
		}
	}
	return all
}

// field is what scripts of calls are made of.
type field struct {
	owners []int
	names  []string
	modes  []int
}

// call is one of a script's calls.
type call struct {
	kind  byte // 'a' Ask, 'f' Free, 'd' Drop
	owner int
	name  string
	mode  int
}

func (c call) String() string {
	return fmt.Sprintf("%c(%d, %q, %d)", c.kind, c.owner, c.name, c.mode)
}

// run does a call on both, and tells where they differ.
func run(x *lock.Table, m *model, c call) string {
	var got, want []int
	var e, f api.Errno
	switch c.kind {
	case 'a':
		e, f = x.Ask(c.owner, c.name, c.mode), m.ask(c.owner, c.name, c.mode)
	case 'f':
		got, e = x.Free(c.owner, c.name)
		want, f = m.free(c.owner, c.name)
	case 'd':
		got, want = x.Drop(c.owner), m.drop(c.owner)
	}
	if !slices.Equal(got, want) || e != f {
		return fmt.Sprintf("%v = %v, %d, want %v, %d", c, got, e, want, f)
	}
	return ""
}

// differ tells where all that is told of a field differs from the model's.
func differ(x *lock.Table, m *model, f field) string {
	for _, o := range f.owners {
		if got, want := x.Held(o), m.held(o); !slices.Equal(got, want) {
			return fmt.Sprintf("Held(%d) = %v, want %v", o, got, want)
		}
		if got, want := x.Behind(o), m.behind(o); !slices.Equal(got, want) {
			return fmt.Sprintf("Behind(%d) = %v, want %v", o, got, want)
		}
		w, is := m.waiting(o)
		if got, also := x.Waits(o); got != (lock.Hold{Name: w.name, Mode: w.mode}) || also != is {
			return fmt.Sprintf("Waits(%d) = %v, %v, want %v, %v", o, got, also, w, is)
		}
		for _, n := range f.names {
			if got, want := x.Mode(o, n), m.mode(o, n); got != want {
				return fmt.Sprintf("Mode(%d, %q) = %d, want %d", o, n, got, want)
			}
		}
	}
	for _, n := range f.names {
		if got, want := x.Holders(n), m.holders(n); !slices.Equal(got, want) {
			return fmt.Sprintf("Holders(%q) = %v, want %v", n, got, want)
		}
		if got, want := x.Queue(n), m.queue(n); !slices.Equal(got, want) {
			return fmt.Sprintf("Queue(%q) = %v, want %v", n, got, want)
		}
	}
	return ""
}

// broken tells where P9.4 does not hold, by what the table tells alone.
func broken(x *lock.Table, f field) string {
	for _, n := range f.names {
		all := x.Holders(n)
		for i, a := range all {
			for _, b := range all[:i] {
				if !mode.Fits(x.Mode(a, n), x.Mode(b, n)) {
					return fmt.Sprintf("%d and %d hold %q in %d and %d", a, b, n, x.Mode(a, n), x.Mode(b, n))
				}
			}
		}
		line := x.Queue(n)
		if len(line) == 0 {
			continue
		}
		w, _ := x.Waits(line[0])
		can := !slices.ContainsFunc(all, func(o int) bool { return o != line[0] && !mode.Fits(w.Mode, x.Mode(o, n)) })
		if can || w.Name != n {
			return fmt.Sprintf("%d waits for %v as the first one of %q, and can have it: %v", line[0], w, n, can)
		}
	}
	for _, o := range f.owners {
		if loopsBack(x, o) {
			return fmt.Sprintf("%d waits behind themselves", o)
		}
	}
	return ""
}

// step does a call on both, and holds all that can be told then against the model and P9.4.
func step(x *lock.Table, m *model, f field, c call) string {
	if s := run(x, m, c); s != "" {
		return s
	}
	if s := differ(x, m, f); s != "" {
		return s
	}
	return broken(x, f)
}

// chance is a call by chance; who waits is dropped now and then, lest all calls be refused.
func (f field) chance(r *rand.Rand, m *model) call {
	c := call{'a', f.owners[r.Intn(len(f.owners))], f.names[r.Intn(len(f.names))], f.modes[r.Intn(len(f.modes))]}
	switch n := r.Intn(100); {
	case n < 20:
		c.kind = 'f'
	case n < 28:
		c.kind = 'd'
	}
	if _, is := m.waiting(c.owner); is && c.kind == 'a' && r.Intn(3) > 0 {
		c.owner = f.owners[r.Intn(len(f.owners))]
	}
	return c
}

var fields = []field{
	{[]int{0, 1, 2}, []string{"a"}, modes},
	{[]int{0, 1, 2, 3}, []string{"", "a"}, modes},
	{[]int{0, 1, 2, 3, 4}, []string{"", "a", "b"}, []int{mode.IS, mode.IX, mode.S, mode.IX, mode.S, mode.IX, mode.X, mode.R}},
	{[]int{3, 1, 4, 15, 9, 26, 5}, []string{"a", "\x00", "\xff", "\xff\x00"}, []int{mode.IS, mode.IX, mode.S, mode.X}},
	{[]int{0, 1, 2, 3, 4, 5, 6, 7, 8, 9}, []string{"a", "b", "c", "d", "e", "f", "g", "h"}, []int{mode.S, mode.X}},
	{[]int{0, 1, 2, 3, 4, 5, 6, 7}, []string{"a", "b"}, []int{mode.IS, mode.IS, mode.IX, mode.S, mode.R}},
	{[]int{-2, -1, 0, 1, 1 << 62}, []string{"a", "b"}, []int{-1, mode.None, mode.IS, mode.IX, mode.S, mode.X, mode.R, mode.RX, mode.Modes}},
}

// P9.1 to P9.4: scripts of calls by chance, held against the model, and P9.4 behind each call.
func TestChance(t *testing.T) {
	answers := map[api.Errno]int{}
	for i, f := range fields {
		for seed := range 60 {
			r := rand.New(rand.NewSource(int64(i*1000 + seed)))
			x, m := lock.New(), &model{}
			var script []call
			for range 150 {
				c := f.chance(r, m)
				script = append(script, c)
				if c.kind == 'a' {
					answers[m.copied().ask(c.owner, c.name, c.mode)]++
				}
				if s := step(x, m, f, c); s != "" {
					t.Fatalf("field %d: behind %v: %s", i, script, s)
				}
			}
		}
	}
	for _, e := range []api.Errno{api.OK, api.ErrArg, api.ErrState, api.ErrWait, api.ErrDead} {
		if answers[e] < 300 {
			t.Errorf("the answer %d came %d times alone", e, answers[e])
		}
	}
}

// P9.4: many owners and names, so that rows of those that wait are long and fork.
func TestChanceOfMany(t *testing.T) {
	f := field{modes: []int{mode.IS, mode.IX, mode.S, mode.S, mode.X}}
	for o := range 40 {
		f.owners = append(f.owners, o)
		f.names = append(f.names, fmt.Sprint(o%25))
	}
	dead := 0
	for seed := range 4 {
		r := rand.New(rand.NewSource(int64(seed)))
		x, m := lock.New(), &model{}
		for range 600 {
			c := f.chance(r, m)
			if c.kind == 'a' && m.copied().ask(c.owner, c.name, c.mode) == api.ErrDead {
				dead++
			}
			if s := step(x, m, f, c); s != "" {
				t.Fatal(s)
			}
		}
	}
	if dead < 20 {
		t.Errorf("ErrDead came %d times alone", dead)
	}
}

// all are all calls of a field.
func (f field) all() []call {
	var l []call
	for _, o := range f.owners {
		l = append(l, call{kind: 'd', owner: o})
		for _, n := range f.names {
			l = append(l, call{kind: 'f', owner: o, name: n})
			for _, m := range f.modes {
				l = append(l, call{'a', o, n, m})
			}
		}
	}
	return l
}

// every runs all scripts of so many calls, each on a table of its own, for a table has no copy.
func every(t *testing.T, f field, long int) {
	l := f.all()
	script := make([]call, long)
	var from func(at int)
	from = func(at int) {
		if at < long {
			for _, c := range l {
				script[at] = c
				from(at + 1)
			}
			return
		}
		x, m := lock.New(), &model{}
		for _, c := range script {
			if s := run(x, m, c); s != "" {
				t.Fatalf("of %v: %s", script, s)
			}
		}
		if s := differ(x, m, f) + broken(x, f); s != "" {
			t.Fatalf("behind %v: %s", script, s)
		}
	}
	from(0)
}

// P9.1 to P9.4: every script of few calls.
func TestEveryScript(t *testing.T) {
	every(t, field{[]int{0, 1}, []string{"a"}, modes}, 4)
	every(t, field{[]int{0, 1, 2}, []string{"a"}, []int{mode.S, mode.X}}, 5)
	every(t, field{[]int{0, 1}, []string{"a", "b"}, []int{mode.IX, mode.S}}, 4)
}

// tell does a call, and is all that is told by it, and then of a field.
func tell(x *lock.Table, f field, c call) string {
	var came []int
	var e api.Errno
	switch c.kind {
	case 'a':
		e = x.Ask(c.owner, c.name, c.mode)
	case 'f':
		came, e = x.Free(c.owner, c.name)
	case 'd':
		came = x.Drop(c.owner)
	}
	return fmt.Sprint(came, int(e), stateOf(x, f.owners, f.names))
}

// R5: the same calls on another table are told the same, whatever order maps have.
func TestSameAnswers(t *testing.T) {
	f := fields[3]
	r := rand.New(rand.NewSource(5))
	x, m := lock.New(), &model{}
	var script []call
	var first []string
	for range 500 {
		c := f.chance(r, m)
		script = append(script, c)
		first = append(first, tell(x, f, c))
		run(lock.New(), m, c)
	}
	for range 5 {
		x := lock.New()
		for i, c := range script {
			if s := tell(x, f, c); s != first[i] {
				t.Fatalf("%v is told\n%s and\n%s", c, first[i], s)
			}
		}
	}
}
