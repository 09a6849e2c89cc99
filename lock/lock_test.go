package lock_test

import (
	"fmt"
	"math"
	"runtime"
	"runtime/debug"
	"slices"
	"strings"
	"testing"
	"unsafe"

	"budwood/api"
	"budwood/lock"
	"budwood/mode"
)

// modes are those in which a name can be held.
var modes = []int{mode.IS, mode.IX, mode.S, mode.X, mode.R, mode.RX}

// wrong are the modes in which none can: None, and what is no mode.
var wrong = []int{mode.None, -1, -7, mode.Modes, mode.Modes + 1, 8, 256 + mode.S, 1<<32 + mode.S, math.MaxInt, math.MinInt}

// names are of any bytes, rising.
var names = []string{"", "\x00", "\x00\x00", "A", "a", "a\x00", "aa", "b", "~", "\x7f", "\x80", "é", "\xff", "\xff\x00", "\xff\xff" + strings.Repeat("z", 1000)}

// state is all that a table tells of some owners and names.
type state struct {
	held    map[int][]lock.Hold
	modes   map[string]int // of owners and names
	waits   map[int]lock.Hold
	behind  map[int][]int
	holders map[string][]int
	queues  map[string][]int
}

func stateOf(x *lock.Table, owners []int, names []string) state {
	s := state{map[int][]lock.Hold{}, map[string]int{}, map[int]lock.Hold{}, map[int][]int{}, map[string][]int{}, map[string][]int{}}
	for _, o := range owners {
		if l := x.Held(o); len(l) > 0 {
			s.held[o] = l
		}
		if w, is := x.Waits(o); is || w != (lock.Hold{}) {
			s.waits[o] = w
		}
		if l := x.Behind(o); len(l) > 0 {
			s.behind[o] = l
		}
		for _, n := range names {
			if m := x.Mode(o, n); m != mode.None {
				s.modes[fmt.Sprintf("%d %q", o, n)] = m
			}
		}
	}
	for _, n := range names {
		if l := x.Holders(n); len(l) > 0 {
			s.holders[n] = l
		}
		if l := x.Queue(n); len(l) > 0 {
			s.queues[n] = l
		}
	}
	return s
}

// String goes over maps by their keys' order, so that the same states are the same texts.
func (s state) String() string {
	return fmt.Sprintf("held %#v, modes %#v, waits %#v, behind %#v, holders %#v, queues %#v", s.held, s.modes, s.waits, s.behind, s.holders, s.queues)
}

var someOwners = []int{math.MinInt, -1, 0, 1, 2, 3, 4, 5, 6, 7, 8, 9, 10, math.MaxInt}

// told is all that a table tells, as a text.
func told(x *lock.Table) string { return stateOf(x, someOwners, names).String() }

// ask asks, and wants that answer.
func ask(t *testing.T, x *lock.Table, owner int, name string, m int, want api.Errno) {
	t.Helper()
	if e := x.Ask(owner, name, m); e != want {
		t.Fatalf("Ask(%d, %q, %d) = %d, want %d", owner, name, m, e, want)
	}
}

// refused asks, and wants that answer, and nothing changed.
func refused(t *testing.T, x *lock.Table, owner int, name string, m int, want api.Errno) {
	t.Helper()
	was := told(x)
	if e := x.Ask(owner, name, m); e != want {
		t.Errorf("Ask(%d, %q, %d) = %d, want %d", owner, name, m, e, want)
	}
	if is := told(x); is != was {
		t.Errorf("Ask(%d, %q, %d) has changed\n%s into\n%s", owner, name, m, was, is)
	}
}

func free(t *testing.T, x *lock.Table, owner int, name string, want ...int) {
	t.Helper()
	if l, e := x.Free(owner, name); !slices.Equal(l, want) || e != api.OK {
		t.Fatalf("Free(%d, %q) = %v, %d, want %v", owner, name, l, e, want)
	}
}

// freeRefused wants an error, and nothing beside it, and nothing changed.
func freeRefused(t *testing.T, x *lock.Table, owner int, name string, want api.Errno) {
	t.Helper()
	was := told(x)
	if l, e := x.Free(owner, name); len(l) > 0 || e != want {
		t.Errorf("Free(%d, %q) = %v, %d, want none, %d", owner, name, l, e, want)
	}
	if is := told(x); is != was {
		t.Errorf("Free(%d, %q) has changed\n%s into\n%s", owner, name, was, is)
	}
}

func drop(t *testing.T, x *lock.Table, owner int, want ...int) {
	t.Helper()
	if l := x.Drop(owner); !slices.Equal(l, want) {
		t.Fatalf("Drop(%d) = %v, want %v", owner, l, want)
	}
	if l := x.Held(owner); len(l) > 0 {
		t.Errorf("behind Drop(%d) they hold %v", owner, l)
	}
	if w, is := x.Waits(owner); is || w != (lock.Hold{}) {
		t.Errorf("behind Drop(%d) they wait for %v, %v", owner, w, is)
	}
}

func holders(t *testing.T, x *lock.Table, name string, want ...int) {
	t.Helper()
	if l := x.Holders(name); !slices.Equal(l, want) {
		t.Errorf("Holders(%q) = %v, want %v", name, l, want)
	}
}

func queue(t *testing.T, x *lock.Table, name string, want ...int) {
	t.Helper()
	if l := x.Queue(name); !slices.Equal(l, want) {
		t.Errorf("Queue(%q) = %v, want %v", name, l, want)
	}
}

func behind(t *testing.T, x *lock.Table, owner int, want ...int) {
	t.Helper()
	if l := x.Behind(owner); !slices.Equal(l, want) {
		t.Errorf("Behind(%d) = %v, want %v", owner, l, want)
	}
}

// holds wants that an owner holds just that, and each as Mode tells it.
func holds(t *testing.T, x *lock.Table, owner int, want ...lock.Hold) {
	t.Helper()
	if l := x.Held(owner); !slices.Equal(l, want) {
		t.Errorf("Held(%d) = %v, want %v", owner, l, want)
	}
	for _, h := range want {
		if m := x.Mode(owner, h.Name); m != h.Mode {
			t.Errorf("Mode(%d, %q) = %d, want %d", owner, h.Name, m, h.Mode)
		}
	}
}

func waits(t *testing.T, x *lock.Table, owner int, name string, m int) {
	t.Helper()
	if w, is := x.Waits(owner); w != (lock.Hold{Name: name, Mode: m}) || !is {
		t.Errorf("Waits(%d) = %v, %v, want %q, %d", owner, w, is, name, m)
	}
}

func waitsNot(t *testing.T, x *lock.Table, owner int) {
	t.Helper()
	if w, is := x.Waits(owner); w != (lock.Hold{}) || is {
		t.Errorf("Waits(%d) = %v, %v, want zero, no", owner, w, is)
	}
	behind(t, x, owner)
}

func join(a, b int) int {
	m, _ := mode.Join(a, b)
	return m
}

// P9.3: of what is not there, nothing: in a table without locks, and beside some.
func TestNothing(t *testing.T) {
	x := lock.New()
	nothing(t, x)
	ask(t, x, 7, "there", mode.X, api.OK)
	ask(t, x, 8, "there", mode.X, api.ErrWait)
	nothing(t, x)
	drop(t, x, 7, 8)
	drop(t, x, 8)
	nothing(t, x)
	holders(t, x, "there")
	waitsNot(t, x, 8)
}

// nothing wants that a table has nothing of some owners and names.
func nothing(t *testing.T, x *lock.Table) {
	t.Helper()
	for _, o := range []int{0, 1, -1, math.MaxInt, math.MinInt} {
		holds(t, x, o)
		waitsNot(t, x, o)
		for _, n := range names {
			if m := x.Mode(o, n); m != mode.None {
				t.Errorf("Mode(%d, %q) = %d", o, n, m)
			}
			freeRefused(t, x, o, n, api.ErrNone)
		}
		drop(t, x, o)
	}
	for _, n := range names {
		holders(t, x, n)
		queue(t, x, n)
	}
}

// P9.1, P9.3: a name that nobody holds is held at once, in every mode, by every owner, of whatever bytes it is.
func TestAskAtOnce(t *testing.T) {
	for _, o := range []int{0, 1, 1 << 40, math.MaxInt} {
		for _, m := range modes {
			x := lock.New()
			var want []lock.Hold
			for i := range names {
				n := names[(i*7+3)%len(names)] // 15 names, so that each comes once
				ask(t, x, o, n, m, api.OK)
				holders(t, x, n, o)
				queue(t, x, n)
			}
			for _, n := range names {
				want = append(want, lock.Hold{Name: n, Mode: m})
			}
			holds(t, x, o, want...)
			waitsNot(t, x, o)
		}
	}
}

// P9.1: whoever does not hold the name holds it, if their mode fits those of all others, or else waits: all pairs.
func TestAskBesideAnother(t *testing.T) {
	for _, a := range modes {
		for _, b := range modes {
			x := lock.New()
			ask(t, x, 5, "n", a, api.OK)
			if mode.Fits(a, b) {
				ask(t, x, 2, "n", b, api.OK)
				holders(t, x, "n", 2, 5)
				queue(t, x, "n")
				holds(t, x, 2, lock.Hold{Name: "n", Mode: b})
				waitsNot(t, x, 2)
			} else {
				ask(t, x, 2, "n", b, api.ErrWait)
				holders(t, x, "n", 5)
				queue(t, x, "n", 2)
				holds(t, x, 2)
				waits(t, x, 2, "n", b)
				behind(t, x, 2, 5)
			}
			holds(t, x, 5, lock.Hold{Name: "n", Mode: a})
			waitsNot(t, x, 5)
		}
	}
}

// P9.1: the modes of all others count, not of one alone: X of the last one, and of the first.
func TestAskBesideSeveral(t *testing.T) {
	for _, odd := range []int{0, 1, 2} {
		x := lock.New()
		for o := range 3 {
			m := mode.IS
			if o == odd {
				m = mode.IX
			}
			ask(t, x, o, "n", m, api.OK)
		}
		ask(t, x, 9, "n", mode.S, api.ErrWait)
		behind(t, x, 9, odd)
		free(t, x, odd, "n", 9)
	}
}

// P9.1: who holds a name alone holds it then in what joins both modes, at once: all pairs; the same join again changes nothing.
func TestAskJoins(t *testing.T) {
	for _, a := range modes {
		for _, b := range modes {
			x := lock.New()
			ask(t, x, 1, "n", a, api.OK)
			ask(t, x, 1, "n", b, api.OK)
			holds(t, x, 1, lock.Hold{Name: "n", Mode: join(a, b)})
			for _, m := range []int{a, b, join(a, b)} {
				refused(t, x, 1, "n", m, api.OK)
			}
			holders(t, x, "n", 1)
			queue(t, x, "n")
		}
	}
}

// P9.1: S and IX are joined by X, R and IS by R: neither the mode that is asked for, nor the greater number.
func TestAskJoinsExamples(t *testing.T) {
	x := lock.New()
	ask(t, x, 1, "a", mode.S, api.OK)
	ask(t, x, 1, "a", mode.IX, api.OK)
	ask(t, x, 1, "b", mode.R, api.OK)
	ask(t, x, 1, "b", mode.IS, api.OK)
	ask(t, x, 1, "c", mode.X, api.OK)
	ask(t, x, 1, "c", mode.R, api.OK)
	holds(t, x, 1, lock.Hold{Name: "a", Mode: mode.X}, lock.Hold{Name: "b", Mode: mode.R}, lock.Hold{Name: "c", Mode: mode.X})
}

// P9.1: who holds a name beside another one: all modes of both, and all that are asked for.
func TestAskJoinsBesideAnother(t *testing.T) {
	for _, a := range modes {
		for _, other := range modes {
			if !mode.Fits(a, other) {
				continue
			}
			for _, b := range modes {
				x := lock.New()
				ask(t, x, 1, "n", a, api.OK)
				ask(t, x, 2, "n", other, api.OK)
				want := join(a, b)
				switch {
				case want == a:
					refused(t, x, 1, "n", b, api.OK)
				case mode.Fits(want, other):
					ask(t, x, 1, "n", b, api.OK)
					holds(t, x, 1, lock.Hold{Name: "n", Mode: want})
					waitsNot(t, x, 1)
				default:
					ask(t, x, 1, "n", b, api.ErrWait)
					holds(t, x, 1, lock.Hold{Name: "n", Mode: a}) // still as it was
					waits(t, x, 1, "n", want)                     // for what joins both
					behind(t, x, 1, 2)
					queue(t, x, "n", 1)
					free(t, x, 2, "n", 1)
					holds(t, x, 1, lock.Hold{Name: "n", Mode: want})
				}
			}
		}
	}
}

// P9.1: who does not hold a name waits as the last one, if somebody waits for it, also for what they could have.
func TestAskLast(t *testing.T) {
	x := lock.New()
	ask(t, x, 1, "n", mode.S, api.OK)
	ask(t, x, 9, "n", mode.X, api.ErrWait)
	for i, m := range []int{mode.S, mode.IS, mode.R, mode.RX, mode.IX} {
		ask(t, x, 8-i, "n", m, api.ErrWait)
		waits(t, x, 8-i, "n", m)
	}
	queue(t, x, "n", 9, 8, 7, 6, 5, 4)
	holders(t, x, "n", 1)
	behind(t, x, 9, 1)
	behind(t, x, 8, 9)
	behind(t, x, 6, 7, 8, 9)
	behind(t, x, 4, 1, 5, 6, 7, 8, 9)
	ask(t, x, 10, "m", mode.S, api.OK) // another name has a queue of its own
}

// P9.1: who holds a name waits in front of all that do not, and behind those that do.
func TestAskInFront(t *testing.T) {
	x := lock.New()
	for o := range 4 {
		ask(t, x, o, "n", mode.IS, api.OK)
	}
	ask(t, x, 4, "n", mode.IX, api.OK)
	ask(t, x, 8, "n", mode.X, api.ErrWait)
	ask(t, x, 7, "n", mode.IS, api.ErrWait)
	ask(t, x, 2, "n", mode.S, api.ErrWait)
	queue(t, x, "n", 2, 8, 7)
	ask(t, x, 0, "n", mode.S, api.ErrWait)
	queue(t, x, "n", 2, 0, 8, 7)
	ask(t, x, 6, "n", mode.RX, api.ErrWait)
	ask(t, x, 3, "n", mode.S, api.ErrWait)
	queue(t, x, "n", 2, 0, 3, 8, 7, 6)
	holders(t, x, "n", 0, 1, 2, 3, 4)
	behind(t, x, 2, 4)
	behind(t, x, 0, 2, 4)
	behind(t, x, 3, 0, 2, 4)
	behind(t, x, 8, 0, 1, 2, 3, 4)
	behind(t, x, 7, 0, 2, 3, 8)
	behind(t, x, 6, 0, 1, 2, 3, 4, 7, 8)
	drop(t, x, 4, 2, 0, 3)
	queue(t, x, "n", 8, 7, 6)
	for _, o := range []int{0, 2, 3} {
		holds(t, x, o, lock.Hold{Name: "n", Mode: mode.S})
	}
}

// P9.1: who holds a name, and can have it in more, has it at once, whoever waits, also those that hold it.
func TestAskAheadOfQueue(t *testing.T) {
	x := lock.New()
	ask(t, x, 1, "n", mode.IS, api.OK)
	ask(t, x, 2, "n", mode.IX, api.OK)
	ask(t, x, 3, "n", mode.IS, api.OK)
	ask(t, x, 9, "n", mode.X, api.ErrWait)
	ask(t, x, 1, "n", mode.S, api.ErrWait)
	ask(t, x, 3, "n", mode.IX, api.OK)
	holds(t, x, 3, lock.Hold{Name: "n", Mode: mode.IX})
	queue(t, x, "n", 1, 9)
	behind(t, x, 1, 2, 3) // behind what 3 has now, too
	refused(t, x, 2, "n", mode.IS, api.OK)
	refused(t, x, 3, "n", mode.IX, api.OK)
}

// P9.1, R3: ErrArg of owners below 0, and of modes that are none, and of None; nothing changes, whether they hold the name, wait, or neither.
func TestAskWrong(t *testing.T) {
	x := lock.New()
	ask(t, x, 1, "a", mode.S, api.OK)
	ask(t, x, 1, "b", mode.X, api.OK)
	ask(t, x, 2, "b", mode.S, api.ErrWait)
	for _, n := range []string{"", "a", "b", "new"} {
		for _, m := range append(slices.Clone(modes), wrong...) {
			for _, o := range []int{-1, -2, math.MinInt, math.MinInt + 1, -1 << 32} {
				refused(t, x, o, n, m, api.ErrArg)
			}
		}
		for _, m := range wrong {
			for _, o := range []int{0, 1, 2, 3, math.MaxInt} { // 2 waits: ErrArg is told ahead of ErrState
				refused(t, x, o, n, m, api.ErrArg)
			}
		}
	}
	ask(t, x, 3, "new", mode.X, api.OK)
}

// P9.1: ErrState of those that wait, whatever they ask for: also what they hold already, and for what they wait.
func TestAskState(t *testing.T) {
	x := lock.New()
	ask(t, x, 1, "a", mode.S, api.OK)
	ask(t, x, 2, "a", mode.S, api.OK)
	ask(t, x, 2, "b", mode.X, api.OK)
	ask(t, x, 1, "c", mode.IS, api.OK)
	ask(t, x, 1, "a", mode.X, api.ErrWait)
	ask(t, x, 3, "b", mode.S, api.ErrWait)
	for _, m := range modes {
		for _, n := range []string{"a", "b", "c", "new"} {
			refused(t, x, 1, n, m, api.ErrState)
			refused(t, x, 3, n, m, api.ErrState)
		}
	}
	drop(t, x, 2, 1, 3)
	ask(t, x, 1, "new", mode.S, api.OK) // who waits no more may ask
	ask(t, x, 3, "new", mode.S, api.OK)
	ask(t, x, 1, "b", mode.S, api.OK)
}

// P9.1: ErrDead over 2 and more, with nothing changed; who was told it may ask for other things.
func TestDeadOver(t *testing.T) {
	for _, count := range []int{2, 3, 4, 10} {
		x := lock.New()
		for o := range count {
			ask(t, x, o, names[o], mode.X, api.OK)
		}
		for o := range count - 1 {
			ask(t, x, o, names[o+1], mode.X, api.ErrWait)
		}
		last := count - 1
		for _, m := range modes {
			for o := range last {
				refused(t, x, last, names[o], m, api.ErrDead)
			}
		}
		waitsNot(t, x, last)
		holds(t, x, last, lock.Hold{Name: names[last], Mode: mode.X})
		ask(t, x, last, "new", mode.X, api.OK)
		for o := last; o > 0; o-- {
			drop(t, x, o, o-1)
		}
		holds(t, x, 0, lock.Hold{Name: names[0], Mode: mode.X}, lock.Hold{Name: names[1], Mode: mode.X})
	}
}

// P9.1: two that hold a name, and both want more of it, of which the second one is told.
func TestDeadOfJoins(t *testing.T) {
	x := lock.New()
	ask(t, x, 1, "n", mode.S, api.OK)
	ask(t, x, 2, "n", mode.S, api.OK)
	ask(t, x, 1, "n", mode.X, api.ErrWait)
	for _, m := range []int{mode.IX, mode.X, mode.RX} {
		refused(t, x, 2, "n", m, api.ErrDead)
	}
	ask(t, x, 2, "n", mode.R, api.OK) // what fits S they can have
	behind(t, x, 1, 2)
	free(t, x, 2, "n", 1)
	holds(t, x, 1, lock.Hold{Name: "n", Mode: mode.X})
}

// P9.1: who stands ahead in a queue is waited for, also if their mode would fit.
func TestDeadByQueue(t *testing.T) {
	x := lock.New()
	ask(t, x, 1, "a", mode.S, api.OK)
	ask(t, x, 2, "b", mode.X, api.OK)
	ask(t, x, 3, "a", mode.X, api.ErrWait)
	ask(t, x, 4, "a", mode.IS, api.ErrWait)
	ask(t, x, 5, "c", mode.X, api.OK)
	ask(t, x, 5, "a", mode.IS, api.ErrWait) // behind 4 and 3, who stand ahead, not behind 1, whose mode fits
	behind(t, x, 5, 3, 4)
	ask(t, x, 1, "c", mode.S, api.ErrDead) // 1 behind 5, 5 behind 3, 3 behind 1
	ask(t, x, 2, "c", mode.S, api.ErrWait)
	drop(t, x, 3, 4, 5)
	ask(t, x, 1, "c", mode.S, api.ErrWait) // now nothing leads from 5 to 1
	behind(t, x, 1, 2, 5)
	drop(t, x, 5, 2, 1)
}

// P9.1: who would stand ahead of others in a queue is waited for by these, which did not wait behind them till then.
func TestDeadByFront(t *testing.T) {
	x := lock.New()
	ask(t, x, 1, "n", mode.IS, api.OK)
	ask(t, x, 2, "n", mode.IX, api.OK)
	ask(t, x, 3, "n", mode.IS, api.OK)
	ask(t, x, 4, "m", mode.X, api.OK)
	ask(t, x, 4, "n", mode.S, api.ErrWait)
	behind(t, x, 4, 2) // not 1, nor 3, whose modes fit
	ask(t, x, 3, "m", mode.S, api.ErrWait)
	refused(t, x, 1, "n", mode.X, api.ErrDead) // 1 behind 3, 3 behind 4, and 4 then behind 1
	ask(t, x, 1, "n", mode.S, api.ErrWait)     // 1 behind 2 alone
	queue(t, x, "n", 1, 4)
	behind(t, x, 4, 1, 2)
	refused(t, x, 2, "n", mode.X, api.ErrDead)
	refused(t, x, 2, "m", mode.S, api.ErrDead)
	drop(t, x, 2, 1, 4)
	holders(t, x, "n", 1, 3, 4)
}

// P9.1: a row that forks and joins again, but leads not back, is no loop; the last edge makes it one.
func TestDeadNot(t *testing.T) {
	x := lock.New()
	ask(t, x, 1, "top", mode.X, api.OK)
	for o := 2; o <= 5; o++ {
		ask(t, x, o, "mid", mode.IS, api.OK)
	}
	ask(t, x, 6, "low", mode.X, api.OK)
	for o := 2; o <= 5; o++ {
		ask(t, x, o, "top", mode.X, api.ErrWait)
	}
	ask(t, x, 6, "mid", mode.X, api.ErrWait)
	behind(t, x, 6, 2, 3, 4, 5)
	ask(t, x, 7, "low", mode.S, api.ErrWait)
	refused(t, x, 1, "low", mode.S, api.ErrDead)
	refused(t, x, 1, "mid", mode.X, api.ErrDead)
	refused(t, x, 1, "mid", mode.IX, api.ErrDead) // behind nobody who holds it, but behind 6, who stands ahead
	ask(t, x, 8, "other", mode.X, api.OK)
	ask(t, x, 1, "other", mode.S, api.ErrWait)
	refused(t, x, 8, "low", mode.S, api.ErrDead) // over 6, 2 to 5, and 1
}

// P9.1: who is told ErrDead is not given up: others that wait behind them do so further on.
func TestDeadStays(t *testing.T) {
	x := lock.New()
	ask(t, x, 1, "a", mode.X, api.OK)
	ask(t, x, 2, "b", mode.X, api.OK)
	ask(t, x, 1, "b", mode.X, api.ErrWait)
	for range 3 {
		refused(t, x, 2, "a", mode.X, api.ErrDead)
	}
	free(t, x, 2, "b", 1)
	ask(t, x, 2, "a", mode.X, api.ErrWait)
	drop(t, x, 1, 2)
}

// P9.2: ErrNone of names that an owner does not hold: of nobody's, of others', and of those for which they wait alone.
func TestFreeNone(t *testing.T) {
	x := lock.New()
	ask(t, x, 1, "a", mode.X, api.OK)
	ask(t, x, 2, "b", mode.S, api.OK)
	ask(t, x, 2, "a", mode.S, api.ErrWait)
	freeRefused(t, x, 2, "a", api.ErrNone) // not ErrState: they do not hold it
	freeRefused(t, x, 1, "b", api.ErrNone)
	freeRefused(t, x, 3, "a", api.ErrNone)
	freeRefused(t, x, 1, "", api.ErrNone)
	freeRefused(t, x, 1, "a\x00", api.ErrNone)
	freeRefused(t, x, 1, "A", api.ErrNone)
	freeRefused(t, x, -1, "a", api.ErrNone)
	freeRefused(t, x, math.MinInt, "a", api.ErrNone)
	free(t, x, 1, "a", 2)
	freeRefused(t, x, 1, "a", api.ErrNone)
}

// P9.2: ErrState of a name that an owner holds, and for which they wait; other names they may free.
func TestFreeState(t *testing.T) {
	x := lock.New()
	ask(t, x, 1, "a", mode.S, api.OK)
	ask(t, x, 1, "b", mode.X, api.OK)
	ask(t, x, 2, "a", mode.S, api.OK)
	ask(t, x, 1, "a", mode.X, api.ErrWait)
	ask(t, x, 3, "b", mode.S, api.ErrWait)
	freeRefused(t, x, 1, "a", api.ErrState)
	free(t, x, 1, "b", 3)
	waits(t, x, 1, "a", mode.X)
	freeRefused(t, x, 1, "a", api.ErrState)
	free(t, x, 2, "a", 1)
	waitsNot(t, x, 1)
	free(t, x, 1, "a")
	holds(t, x, 1)
	holders(t, x, "a")
}

// P9.2: those that are let come come in order, up to the first one that can not have it, whatever stands behind it.
func TestFreeOrder(t *testing.T) {
	x := lock.New()
	ask(t, x, 0, "n", mode.X, api.OK)
	for i, m := range []int{mode.IS, mode.S, mode.R, mode.S, mode.IX, mode.IS, mode.IX, mode.X, mode.IS} {
		ask(t, x, 9-i, "n", m, api.ErrWait)
	}
	free(t, x, 0, "n", 9, 8, 7, 6)
	holders(t, x, "n", 6, 7, 8, 9)
	queue(t, x, "n", 5, 4, 3, 2, 1)
	behind(t, x, 5, 6, 7, 8)
	behind(t, x, 4, 5)
	for _, o := range []int{6, 7} {
		free(t, x, o, "n")
	}
	free(t, x, 8, "n", 5, 4, 3)
	holders(t, x, "n", 3, 4, 5, 9)
	holds(t, x, 5, lock.Hold{Name: "n", Mode: mode.IX})
	for _, o := range []int{3, 9, 5} {
		free(t, x, o, "n")
	}
	free(t, x, 4, "n", 2)
	free(t, x, 2, "n", 1)
	free(t, x, 1, "n")
	holders(t, x, "n")
}

// P9.2: who holds the name comes in what joins both modes, and keeps others from coming.
func TestFreeJoins(t *testing.T) {
	x := lock.New()
	ask(t, x, 1, "n", mode.S, api.OK)
	ask(t, x, 2, "n", mode.IS, api.OK)
	ask(t, x, 3, "n", mode.IS, api.OK)
	ask(t, x, 4, "n", mode.R, api.OK)
	ask(t, x, 5, "n", mode.S, api.OK)
	ask(t, x, 9, "n", mode.IX, api.ErrWait)
	ask(t, x, 3, "n", mode.IX, api.ErrWait)
	ask(t, x, 2, "n", mode.IX, api.ErrWait)
	free(t, x, 1, "n")
	free(t, x, 4, "n")
	free(t, x, 5, "n", 3, 2, 9)
	holds(t, x, 2, lock.Hold{Name: "n", Mode: mode.IX})
	ask(t, x, 2, "n", mode.S, api.ErrWait) // X, as it joins IX and S
	waits(t, x, 2, "n", mode.X)
	free(t, x, 3, "n")
	ask(t, x, 8, "n", mode.IS, api.ErrWait)
	free(t, x, 9, "n", 2)
	holds(t, x, 2, lock.Hold{Name: "n", Mode: mode.X})
	queue(t, x, "n", 8)
	behind(t, x, 8, 2)
}

// P9.2: Drop of those that hold several names, and wait for one: name by name, rising, whatever the order in which they were asked for.
func TestDropOrder(t *testing.T) {
	x := lock.New()
	for i := range 5 {
		ask(t, x, 0, names[i*4%5], mode.X, api.OK)
	}
	ask(t, x, 9, names[5], mode.X, api.OK)
	ask(t, x, 0, names[5], mode.S, api.ErrWait)
	for i, n := range []int{3, 1, 4, 0, 2} {
		ask(t, x, 1+i, names[n], mode.S, api.ErrWait)
	}
	for i, n := range []int{1, 0, 1} {
		ask(t, x, 6+i, names[n], mode.S, api.ErrWait)
	}
	drop(t, x, 0, 4, 7, 2, 6, 8, 5, 1, 3)
	for i, want := range [][]int{{4, 7}, {2, 6, 8}, {5}, {1}, {3}, {9}} {
		holders(t, x, names[i], want...)
		queue(t, x, names[i])
	}
}

// P9.2: names rise byte by byte, of whatever bytes they are: Drop and Held over all of them.
func TestDropOfAnyBytes(t *testing.T) {
	x := lock.New()
	count := len(names)
	var came []int
	var held []lock.Hold
	for i := range count {
		at := (i*7 + 3) % count
		ask(t, x, 100, names[at], mode.X, api.OK)
		ask(t, x, at, names[at], mode.X, api.ErrWait)
		came = append(came, i)
		held = append(held, lock.Hold{Name: names[i], Mode: mode.X})
	}
	holds(t, x, 100, held...)
	drop(t, x, 100, came...)
	for i, n := range names {
		holders(t, x, n, i)
	}
}

// P9.2: who waits, and is dropped, lets those behind them come; the name for which they waited is among those that rise.
func TestDropWho(t *testing.T) {
	x := lock.New()
	ask(t, x, 1, "b", mode.S, api.OK)
	ask(t, x, 2, "a", mode.X, api.OK)
	ask(t, x, 2, "c", mode.X, api.OK)
	ask(t, x, 2, "b", mode.X, api.ErrWait)
	ask(t, x, 3, "b", mode.S, api.ErrWait)
	ask(t, x, 4, "c", mode.S, api.ErrWait)
	ask(t, x, 5, "a", mode.S, api.ErrWait)
	ask(t, x, 6, "b", mode.R, api.ErrWait)
	ask(t, x, 7, "b", mode.IX, api.ErrWait)
	drop(t, x, 2, 5, 3, 6, 4)
	holders(t, x, "b", 1, 3, 6)
	queue(t, x, "b", 7)
	drop(t, x, 7)
	queue(t, x, "b")
	drop(t, x, 2)
}

// P9.2: who is dropped while they wait for more of what they hold: the name's queue is let come once.
func TestDropOfJoins(t *testing.T) {
	x := lock.New()
	ask(t, x, 1, "n", mode.S, api.OK)
	ask(t, x, 2, "n", mode.S, api.OK)
	ask(t, x, 1, "n", mode.X, api.ErrWait)
	ask(t, x, 3, "n", mode.S, api.ErrWait)
	ask(t, x, 4, "n", mode.IX, api.ErrWait)
	drop(t, x, 1, 3)
	holders(t, x, "n", 2, 3)
	queue(t, x, "n", 4)
	drop(t, x, 2)
	drop(t, x, 3, 4)
}

// P9.2: who waits in a queue's middle, or at its end, lets nobody come, if the first one still waits.
func TestDropInQueue(t *testing.T) {
	x := lock.New()
	ask(t, x, 1, "n", mode.X, api.OK)
	for o := 2; o <= 6; o++ {
		ask(t, x, o, "n", mode.S, api.ErrWait)
	}
	drop(t, x, 4)
	drop(t, x, 6)
	queue(t, x, "n", 2, 3, 5)
	behind(t, x, 5, 1, 2, 3)
	drop(t, x, 1, 2, 3, 5)
}

// P9.3: an owner behind whom somebody waits twice, as they hold the name and stand ahead, is told once.
func TestBehindOnce(t *testing.T) {
	x := lock.New()
	for _, o := range []int{8, 3, 5} {
		ask(t, x, o, "n", mode.S, api.OK)
	}
	ask(t, x, 5, "n", mode.X, api.ErrWait)
	ask(t, x, 4, "n", mode.X, api.ErrWait)
	ask(t, x, 1, "n", mode.IX, api.ErrWait)
	behind(t, x, 5, 3, 8)
	behind(t, x, 4, 3, 5, 8)
	behind(t, x, 1, 3, 4, 5, 8)
	behind(t, x, 3)
}

// P9.3: what is told of a name goes by its bytes, all of them.
func TestNamesOfAnyBytes(t *testing.T) {
	x := lock.New()
	for i, n := range names {
		ask(t, x, i, n, mode.X, api.OK)
	}
	for i, n := range names {
		holders(t, x, n, i)
		holds(t, x, i, lock.Hold{Name: n, Mode: mode.X})
		ask(t, x, 100+i, n, mode.S, api.ErrWait)
		waits(t, x, 100+i, n, mode.S)
		queue(t, x, n, 100+i)
		if m := x.Mode(i, n+"."); m != mode.None {
			t.Errorf("Mode(%d, %q) = %d", i, n+".", m)
		}
	}
	for i, n := range names {
		free(t, x, i, n, 100+i)
	}
}

// loopsBack tells whether somebody waits behind themselves, by what Behind tells.
func loopsBack(x *lock.Table, owner int) bool {
	seen := map[int]bool{}
	rest := []int{owner}
	for len(rest) > 0 {
		for _, o := range x.Behind(rest[0]) {
			if o == owner {
				return true
			}
			if !seen[o] {
				seen[o] = true
				rest = append(rest, o)
			}
		}
		rest = rest[1:]
	}
	return false
}

// P9.1, P9.4: over however many: a row of owners that wait one behind the other, far longer than the stack is deep that it is given.
func TestDeadOverVeryMany(t *testing.T) {
	const count = 200000
	defer debug.SetMaxStack(debug.SetMaxStack(4 << 20))
	x := lock.New()
	name := func(o int) string { return fmt.Sprint("n", o) }
	for o := range count {
		ask(t, x, o, name(o), mode.X, api.OK)
	}
	for o := range count - 1 {
		ask(t, x, o, name(o+1), mode.S, api.ErrWait)
	}
	ask(t, x, count-1, name(0), mode.IS, api.ErrDead)
	waitsNot(t, x, count-1)
	if loopsBack(x, 0) {
		t.Error("0 waits behind themselves")
	}
	ask(t, x, count, name(0), mode.IS, api.ErrWait)
	ask(t, x, count-1, "new", mode.X, api.OK)
	ask(t, x, count-1, name(count/2), mode.S, api.ErrDead)
	drop(t, x, count-1, count-2)
	ask(t, x, count-1, name(0), mode.IS, api.ErrWait) // behind all others, who wait no more behind them
	drop(t, x, 0, count, count-1)
}

// P9.1: rows that fork and join again at every step, so that there are far more of them than could be followed one by one.
func TestDeadOverForks(t *testing.T) {
	const steps = 64
	x := lock.New()
	name := func(step int) string { return fmt.Sprint("n", step) }
	for o := range 2 * steps {
		ask(t, x, o, name(o/2), mode.IS, api.OK)
	}
	for o := range 2*steps - 2 {
		ask(t, x, o, name(o/2+1), mode.X, api.ErrWait)
	}
	ask(t, x, 1000, "top", mode.X, api.OK)
	ask(t, x, 1001, "top", mode.S, api.ErrWait)
	ask(t, x, 1000, name(0), mode.X, api.ErrWait)
	ask(t, x, 2*steps-1, "top", mode.S, api.ErrDead)
	waitsNot(t, x, 2*steps-1)
}

// P9.1, P9.2: a long queue of one name, in which somebody far ahead is waited for.
func TestLongQueue(t *testing.T) {
	const count = 3000
	x := lock.New()
	ask(t, x, 0, "n", mode.IX, api.OK)
	ask(t, x, 0, "m", mode.X, api.OK)
	var all []int
	for o := 1; o <= count; o++ {
		ask(t, x, o, fmt.Sprint(o), mode.X, api.OK)
		ask(t, x, o, "n", mode.S, api.ErrWait)
		all = append(all, o)
	}
	queue(t, x, "n", all...)
	behind(t, x, count, append([]int{0}, all[:count-1]...)...)
	ask(t, x, 0, fmt.Sprint(count), mode.S, api.ErrDead)
	ask(t, x, 0, "n", mode.X, api.OK) // as nobody else holds it
	free(t, x, 0, "n", all...)
	holders(t, x, "n", all...)
	ask(t, x, 0, "n", mode.S, api.OK)
	ask(t, x, 0, fmt.Sprint(count), mode.S, api.ErrWait)
}

// room is a text whose bytes can be changed from without.
func room(s string) (string, []byte) {
	b := []byte(s + "!")
	return unsafe.String(unsafe.SliceData(b), len(s)), b
}

// R4: names that are handed in are neither changed nor kept: not by the call that is the first, nor by those that find them there.
func TestNamesAreCopied(t *testing.T) {
	x := lock.New()
	call := func(do func(name string)) {
		t.Helper()
		s, b := room("name")
		do(s)
		if string(b) != "name!" {
			t.Errorf("a name was changed into %q", b)
		}
		copy(b, "gone")
	}
	call(func(s string) { ask(t, x, 1, s, mode.S, api.OK) })
	call(func(s string) { ask(t, x, 1, s, mode.R, api.OK) })
	call(func(s string) { ask(t, x, 2, s, mode.S, api.OK) })
	call(func(s string) { ask(t, x, 3, s, mode.X, api.ErrWait) })
	call(func(s string) { ask(t, x, 2, s, mode.X, api.ErrWait) })
	call(func(s string) { ask(t, x, 1, s, mode.X, api.ErrDead) })
	call(func(s string) { x.Mode(1, s); x.Holders(s); x.Queue(s) })
	call(func(s string) { freeRefused(t, x, 2, s, api.ErrState) })
	call(func(s string) { freeRefused(t, x, 3, s, api.ErrNone) })
	holds(t, x, 1, lock.Hold{Name: "name", Mode: mode.R})
	holds(t, x, 2, lock.Hold{Name: "name", Mode: mode.S})
	waits(t, x, 2, "name", mode.X)
	waits(t, x, 3, "name", mode.X)
	holders(t, x, "name", 1, 2)
	queue(t, x, "name", 2, 3)
	call(func(s string) { free(t, x, 1, s, 2) })
	drop(t, x, 2, 3)
	holds(t, x, 3, lock.Hold{Name: "name", Mode: mode.X})
	call(func(s string) { free(t, x, 3, s) })
	holders(t, x, "name")
}

// at is where a text's bytes stand.
func at(s string) *byte { return unsafe.StringData(s) }

// R4: what is told is new memory, spare room too: of each call, and of each name within.
func TestAnswersAreNew(t *testing.T) {
	x := lock.New()
	for _, n := range []string{"a", "b", "c"} {
		for o := range 3 {
			ask(t, x, o, n, mode.S, api.OK)
		}
	}
	for o := 3; o < 8; o++ {
		ask(t, x, o, "a", mode.X, api.ErrWait)
	}
	was := told(x)
	spoil := func(l []int) {
		l = l[:cap(l)]
		for i := range l {
			l[i] = -7
		}
	}
	for range 2 {
		spoil(x.Holders("a"))
		spoil(x.Queue("a"))
		spoil(x.Behind(7))
		l := x.Held(1)
		l = l[:cap(l)]
		for i := range l {
			l[i] = lock.Hold{Name: "spoiled", Mode: -7}
		}
	}
	if is := told(x); is != was {
		t.Errorf("lists that were told are the table's own:\n%s\n%s", was, is)
	}
	a, b := x.Held(1), x.Held(1)
	c, d := x.Held(2), x.Held(0)
	v, _ := x.Waits(7)
	w, _ := x.Waits(7)
	u, _ := x.Waits(6)
	places := []*byte{at(a[0].Name), at(b[0].Name), at(c[0].Name), at(d[0].Name), at(u.Name), at(v.Name), at(w.Name)}
	for i, p := range places {
		if slices.Contains(places[:i], p) {
			t.Errorf("the name of answer %d stands where that of another one stands", i)
		}
	}
	drop(t, x, 0)
	spoil(x.Queue("a"))
	drop(t, x, 1)
	came := x.Drop(2)
	if !slices.Equal(came, []int{3}) {
		t.Fatalf("Drop(2) = %v", came)
	}
	spoil(came)
	queue(t, x, "a", 4, 5, 6, 7)
	came, _ = x.Free(3, "a")
	spoil(came)
	queue(t, x, "a", 5, 6, 7)
	holders(t, x, "a", 4)
}

// R4: a list that was told stays as it was told, whatever is done then.
func TestAnswersStay(t *testing.T) {
	x := lock.New()
	ask(t, x, 1, "a", mode.S, api.OK)
	ask(t, x, 2, "a", mode.S, api.OK)
	for o := 3; o < 7; o++ {
		ask(t, x, o, "a", mode.X, api.ErrWait)
	}
	hold, line, back, held := x.Holders("a"), x.Queue("a"), x.Behind(6), x.Held(1)
	ask(t, x, 1, "a", mode.X, api.ErrWait)
	drop(t, x, 2, 1)
	drop(t, x, 4)
	drop(t, x, 1, 3)
	if !slices.Equal(hold, []int{1, 2}) || !slices.Equal(line, []int{3, 4, 5, 6}) || !slices.Equal(back, []int{1, 2, 3, 4, 5}) || !slices.Equal(held, []lock.Hold{{Name: "a", Mode: mode.S}}) {
		t.Error(hold, line, back, held)
	}
}

// A table knows nothing of another one.
func TestTwoTables(t *testing.T) {
	x, y := lock.New(), lock.New()
	ask(t, x, 1, "a", mode.X, api.OK)
	ask(t, y, 2, "a", mode.X, api.OK)
	ask(t, x, 2, "a", mode.X, api.ErrWait)
	ask(t, y, 1, "a", mode.X, api.ErrWait)
	drop(t, x, 1, 2)
	holders(t, y, "a", 2)
	queue(t, y, "a", 1)
}

// heap is how many bytes are in use.
func heap() int {
	var m runtime.MemStats
	runtime.GC()
	runtime.ReadMemStats(&m)
	return int(m.HeapAlloc)
}

// Ways: names that nobody holds any more are not kept; nor are owners that hold nothing.
func TestNothingIsKept(t *testing.T) {
	const most = 8 << 20
	x := lock.New()
	was := heap()
	for i := range 4000 {
		n := strings.Repeat("z", 10000) + fmt.Sprint(i)
		ask(t, x, 1, n, mode.X, api.OK)
		ask(t, x, 2, n, mode.X, api.ErrWait)
		free(t, x, 1, n, 2)
		if i%2 == 0 {
			free(t, x, 2, n)
		} else {
			drop(t, x, 2)
		}
	}
	if is := heap(); is > was+most {
		t.Errorf("behind names that are free %d bytes more are in use", is-was)
	}
	for o := range 100000 {
		ask(t, x, o, "n", mode.X, api.OK)
		if o%2 == 0 {
			free(t, x, o, "n")
		} else {
			drop(t, x, o)
		}
	}
	if is := heap(); is > was+most {
		t.Errorf("behind owners that hold nothing %d bytes more are in use", is-was)
	}
	runtime.KeepAlive(x)
}

// The chapter's examples.
func TestExamples(t *testing.T) {
	x := lock.New()
	ask(t, x, 1, "a", mode.X, api.OK)
	ask(t, x, 2, "a", mode.S, api.ErrWait)
	ask(t, x, 2, "b", mode.S, api.ErrState)
	drop(t, x, 1, 2)
}
