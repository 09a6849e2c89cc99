package mode_test

import (
	"math"
	"slices"
	"strings"
	"testing"
	"unsafe"

	"budwood/api"
	"budwood/mode"
)

// modes has every mode once, in the order of their numbers.
var modes = []int{mode.None, mode.IS, mode.IX, mode.S, mode.X, mode.R, mode.RX}

// texts has the modes' names, in the same order.
var texts = []string{"-", "IS", "IX", "S", "X", "R", "RX"}

// clash is the document's list: with which others each mode clashes.
var clash = map[int][]int{
	mode.None: {},
	mode.IS:   {mode.X, mode.RX},
	mode.IX:   {mode.S, mode.X, mode.R, mode.RX},
	mode.S:    {mode.IX, mode.X, mode.RX},
	mode.X:    {mode.IS, mode.IX, mode.S, mode.X, mode.R, mode.RX},
	mode.R:    {mode.IX, mode.X, mode.R, mode.RX},
	mode.RX:   {mode.IS, mode.IX, mode.S, mode.X, mode.R, mode.RX},
}

// odd has numbers that are no modes: the next ones at both ends, those that a shift or fewer bits would bring back, and the outermost.
var odd = []int{
	-1, -2, -7, mode.Modes, mode.Modes + 1, 8, 63, 64, 65, 128, 255, 256, 257, -256, -255,
	1 << 32, 1<<32 + 1, -1 << 32, math.MaxInt32, math.MinInt32, math.MaxInt, math.MaxInt - 1, math.MinInt, math.MinInt + 1,
}

// all has the modes and the odd ones.
func all() []int { return slices.Concat(modes, odd) }

func isMode(m int) bool { return slices.Contains(modes, m) }

func fits(a, b int) bool { return isMode(a) && isMode(b) && !slices.Contains(clash[a], b) }

// covers is the document's words: a clashes with all with which b does, and is RX, if b is.
func covers(a, b int) bool {
	if !isMode(a) || !isMode(b) || b == mode.RX && a != mode.RX {
		return false
	}
	for _, m := range clash[b] {
		if !slices.Contains(clash[a], m) {
			return false
		}
	}
	return true
}

// joins are all modes that cover both, and that all modes cover which cover both: there must be one.
func joins(a, b int) []int {
	var both, least []int
	for _, m := range modes {
		if covers(m, a) && covers(m, b) {
			both = append(both, m)
		}
	}
	for _, m := range both {
		if !slices.ContainsFunc(both, func(n int) bool { return !covers(n, m) }) {
			least = append(least, m)
		}
	}
	return least
}

func join(t *testing.T, a, b int) int {
	t.Helper()
	m, e := mode.Join(a, b)
	if e != api.OK {
		t.Fatalf("Join(%d, %d) = %d, %d", a, b, m, e)
	}
	return m
}

func above(t *testing.T, m int) int {
	t.Helper()
	n, e := mode.Above(m)
	if e != api.OK {
		t.Fatalf("Above(%d) = %d, %d", m, n, e)
	}
	return n
}

// The modes are the numbers of 0 to less than Modes, in the document's order.
func TestModes(t *testing.T) {
	for i, m := range modes {
		if i != m {
			t.Errorf("the mode %s is %d, want %d", texts[i], m, i)
		}
	}
	if mode.Modes != 7 {
		t.Errorf("Modes = %d, want 7", mode.Modes)
	}
}

// The list above goes both ways, as the document says that it does.
func TestClashesGoBothWays(t *testing.T) {
	for _, a := range modes {
		for _, b := range modes {
			if slices.Contains(clash[a], b) != slices.Contains(clash[b], a) {
				t.Errorf("%s and %s clash one way alone", texts[a], texts[b])
			}
		}
	}
}

// P8.1: both are modes, that do not clash; all pairs of modes, and of those with others.
func TestFits(t *testing.T) {
	for _, a := range all() {
		for _, b := range all() {
			if got := mode.Fits(a, b); got != fits(a, b) {
				t.Errorf("Fits(%d, %d) = %v", a, b, got)
			}
		}
	}
}

// P8.1: the same as a table of its own: what fits each mode.
func TestFitsTable(t *testing.T) {
	want := []string{
		"- IS IX S X R RX", // None
		"- IS IX S R",      // IS
		"- IS IX",          // IX
		"- IS S R",         // S
		"-",                // X
		"- IS S",           // R
		"-",                // RX
	}
	for a, row := range want {
		var got []string
		for b := range mode.Modes {
			if mode.Fits(a, b) {
				got = append(got, texts[b])
			}
		}
		if strings.Join(got, " ") != row {
			t.Errorf("what fits %s: %v, want %s", texts[a], got, row)
		}
	}
}

// P8.1: None clashes with none; what is no mode fits not even None, nor itself.
func TestFitsNone(t *testing.T) {
	for _, m := range modes {
		if !mode.Fits(mode.None, m) || !mode.Fits(m, mode.None) {
			t.Errorf("None does not fit %s", texts[m])
		}
	}
	for _, m := range odd {
		if mode.Fits(m, mode.None) || mode.Fits(mode.None, m) || mode.Fits(m, m) {
			t.Errorf("%d, that is no mode, fits", m)
		}
	}
}

// P8.2: a clashes with all with which b does, and is RX, if b is; all pairs of modes, and of those with others.
func TestCovers(t *testing.T) {
	for _, a := range all() {
		for _, b := range all() {
			if got := mode.Covers(a, b); got != covers(a, b) {
				t.Errorf("Covers(%d, %d) = %v", a, b, got)
			}
		}
	}
}

// P8.2: the same as a table of its own: what each mode covers.
func TestCoversTable(t *testing.T) {
	want := []string{
		"-",                // None
		"- IS",             // IS
		"- IS IX",          // IX
		"- IS S",           // S
		"- IS IX S X R",    // X
		"- IS S R",         // R
		"- IS IX S X R RX", // RX
	}
	for a, row := range want {
		var got []string
		for b := range mode.Modes {
			if mode.Covers(a, b) {
				got = append(got, texts[b])
			}
		}
		if strings.Join(got, " ") != row {
			t.Errorf("%s covers %v, want %s", texts[a], got, row)
		}
	}
}

// P8.2: X clashes with as many as RX, and yet does not cover it; what is no mode covers none, not even itself.
func TestCoversEdges(t *testing.T) {
	if mode.Covers(mode.X, mode.RX) || !mode.Covers(mode.RX, mode.X) {
		t.Error("X and RX")
	}
	for _, m := range odd {
		if mode.Covers(m, m) || mode.Covers(m, mode.None) || mode.Covers(mode.RX, m) {
			t.Errorf("%d, that is no mode, covers, or is covered", m)
		}
	}
}

// P8.2: the one mode that covers both, and that all modes cover which cover both; all pairs of modes.
func TestJoin(t *testing.T) {
	for _, a := range modes {
		for _, b := range modes {
			want := joins(a, b)
			if len(want) != 1 {
				t.Fatalf("%s and %s have the joins %v", texts[a], texts[b], want)
			}
			if got := join(t, a, b); got != want[0] {
				t.Errorf("Join(%s, %s) = %s, want %s", texts[a], texts[b], texts[got], texts[want[0]])
			}
		}
	}
}

// P8.2: the same as a table of its own.
func TestJoinTable(t *testing.T) {
	want := []string{
		"- IS IX S X R RX",
		"IS IS IX S X R RX",
		"IX IX IX X X X RX",
		"S S X S X R RX",
		"X X X X X X RX",
		"R R X R X R RX",
		"RX RX RX RX RX RX RX",
	}
	for a, row := range want {
		var got []string
		for b := range mode.Modes {
			got = append(got, texts[join(t, a, b)])
		}
		if strings.Join(got, " ") != row {
			t.Errorf("the joins of %s: %v, want %s", texts[a], got, row)
		}
	}
}

// P8.2, R3: ErrArg, unless both are modes; the mode is 0 then.
func TestJoinWrong(t *testing.T) {
	for _, a := range all() {
		for _, b := range all() {
			if isMode(a) && isMode(b) {
				continue
			}
			if m, e := mode.Join(a, b); m != 0 || e != api.ErrArg {
				t.Errorf("Join(%d, %d) = %d, %d, want 0, ErrArg", a, b, m, e)
			}
		}
	}
}

// P8.3: None of None; IS of IS and S; IX of all others.
func TestAbove(t *testing.T) {
	want := []int{mode.None, mode.IS, mode.IX, mode.IS, mode.IX, mode.IX, mode.IX}
	for _, m := range modes {
		if got, e := mode.Above(m); got != want[m] || e != api.OK {
			t.Errorf("Above(%s) = %d, %d, want %s", texts[m], got, e, texts[want[m]])
		}
	}
}

// P8.3, R3: ErrArg, unless m is a mode; the mode is 0 then.
func TestAboveWrong(t *testing.T) {
	for _, m := range odd {
		if got, e := mode.Above(m); got != 0 || e != api.ErrArg {
			t.Errorf("Above(%d) = %d, %d, want 0, ErrArg", m, got, e)
		}
	}
}

// P8.3: every mode's name; empty of what is none.
func TestName(t *testing.T) {
	for _, m := range modes {
		if got := mode.Name(m); got != texts[m] {
			t.Errorf("Name(%d) = %q, want %q", m, got, texts[m])
		}
	}
	for _, m := range odd {
		if got := mode.Name(m); got != "" {
			t.Errorf("Name(%d) = %q, want none", m, got)
		}
	}
}

// P8.3: the mode of every name; Parse of Name is the mode again.
func TestParse(t *testing.T) {
	for m, s := range texts {
		if got, e := mode.Parse(s); got != m || e != api.OK {
			t.Errorf("Parse(%q) = %d, %d, want %d", s, got, e, m)
		}
	}
	for _, m := range modes {
		if got, e := mode.Parse(mode.Name(m)); got != m || e != api.OK {
			t.Errorf("Parse of Name(%d) = %d, %d", m, got, e)
		}
	}
}

// refused tells of a text that is no mode's name.
func refused(t *testing.T, s string) {
	t.Helper()
	if got, e := mode.Parse(s); got != 0 || e != api.ErrForm {
		t.Errorf("Parse(%q) = %d, %d, want 0, ErrForm", s, got, e)
	}
}

// P8.3, R3: ErrForm of every other text, the mode 0: those that are named here, and the names of odd numbers.
func TestParseWrong(t *testing.T) {
	for _, s := range []string{
		"", "I", "XR", "SI", "XI", "XX", "SS", "RR", "SX", "SIX", "RS", "IR", "IRX", "RXX", "--", "None", "none", "Modes",
		"is", "ix", "s", "x", "r", "rx", "Is", "iS", "Ix", "iX", "Rx", "rX", "_", "+", "—", "0", "1", "6", "7",
		"IS,IX", "IS IX", "ISIX", "-IS", "ＩＳ", "S\x00", "\x00", "\xff", "\xd3", "-\n",
	} {
		refused(t, s)
	}
	for _, m := range odd {
		refused(t, mode.Name(m))
	}
	refused(t, strings.Repeat("RX", 1<<16))
}

// P8.3: a letter more, a letter less, another letter, in every place of every name: all texts of at most two bytes but the names, and all bytes around them.
func TestParseNear(t *testing.T) {
	near := func(s string) {
		if !slices.Contains(texts, s) {
			refused(t, s)
		}
	}
	for a := range 256 {
		near(string([]byte{byte(a)}))
		for b := range 256 {
			near(string([]byte{byte(a), byte(b)}))
		}
		for _, s := range texts {
			for i := range len(s) + 1 {
				near(s[:i] + string([]byte{byte(a)}) + s[i:])
			}
		}
	}
	for _, s := range texts {
		for i := range s {
			near(s[:i] + s[i+1:])
		}
	}
}

// P8.4: Fits goes both ways.
func TestFitsGoesBothWays(t *testing.T) {
	for _, a := range all() {
		for _, b := range all() {
			if mode.Fits(a, b) != mode.Fits(b, a) {
				t.Errorf("Fits(%d, %d) is not Fits(%d, %d)", a, b, b, a)
			}
		}
	}
}

// P8.4: what fits what covers another one fits that one.
func TestFitsBelowCovers(t *testing.T) {
	for _, a := range modes {
		for _, b := range modes {
			for _, c := range modes {
				if mode.Fits(a, b) && mode.Covers(b, c) && !mode.Fits(a, c) {
					t.Errorf("%s fits %s, which covers %s, and does not fit that", texts[a], texts[b], texts[c])
				}
			}
		}
	}
}

// P8.4: Join goes both ways.
func TestJoinGoesBothWays(t *testing.T) {
	for _, a := range all() {
		for _, b := range all() {
			m, e := mode.Join(a, b)
			n, f := mode.Join(b, a)
			if m != n || e != f {
				t.Errorf("Join(%d, %d) = %d, %d; Join(%d, %d) = %d, %d", a, b, m, e, b, a, n, f)
			}
		}
	}
}

// P8.4: Join covers both, and is covered by all that cover both, and by no others.
func TestJoinIsCovered(t *testing.T) {
	for _, a := range modes {
		for _, b := range modes {
			m := join(t, a, b)
			for _, c := range modes {
				if both := mode.Covers(c, a) && mode.Covers(c, b); both != mode.Covers(c, m) {
					t.Errorf("%s covers %s and %s: %v, and their join %s: %v", texts[c], texts[a], texts[b], both, texts[m], !both)
				}
			}
		}
	}
}

// P8.4: joins of three are the same in any order, and what fits a join fits both.
func TestJoinOfThree(t *testing.T) {
	for _, a := range modes {
		for _, b := range modes {
			for _, c := range modes {
				if join(t, join(t, a, b), c) != join(t, a, join(t, b, c)) {
					t.Errorf("the joins of %s, %s, %s", texts[a], texts[b], texts[c])
				}
				if mode.Fits(join(t, a, b), c) && !(mode.Fits(a, c) && mode.Fits(b, c)) {
					t.Errorf("%s fits the join of %s and %s, and not both", texts[c], texts[a], texts[b])
				}
			}
		}
	}
}

// P8.4: what is above what fits fits.
func TestAboveFits(t *testing.T) {
	for _, a := range modes {
		for _, b := range modes {
			if mode.Fits(a, b) && !mode.Fits(above(t, a), above(t, b)) {
				t.Errorf("%s fits %s, and what is above them does not", texts[a], texts[b])
			}
		}
	}
}

// The chapter's examples.
func TestExamples(t *testing.T) {
	if m := join(t, mode.IX, mode.S); m != mode.X {
		t.Errorf("Join(IX, S) = %d", m)
	}
	if m := join(t, mode.IS, mode.R); m != mode.R {
		t.Errorf("Join(IS, R) = %d", m)
	}
	if !mode.Fits(mode.S, mode.R) {
		t.Error("S does not fit R")
	}
}

// R4: a text that is handed in is not changed.
func TestTextStays(t *testing.T) {
	for _, s := range append(slices.Clone(texts), "", "is", "ISX") {
		room := []byte(s + "RX")
		mode.Parse(unsafe.String(unsafe.SliceData(room), len(s)))
		if string(room) != s+"RX" {
			t.Errorf("Parse(%q) left %q", s, room)
		}
	}
}

// R5: what is answered hangs on the arguments alone.
func TestSameAnswers(t *testing.T) {
	tell := func() (out []any) {
		for _, a := range all() {
			m, e := mode.Above(a)
			n, f := mode.Parse(mode.Name(a))
			out = append(out, m, e, n, f, mode.Name(a))
			for _, b := range all() {
				m, e := mode.Join(a, b)
				out = append(out, m, e, mode.Fits(a, b), mode.Covers(a, b))
			}
		}
		return out
	}
	first := tell()
	for range 3 {
		if !slices.Equal(first, tell()) {
			t.Fatal("asked again, it answers otherwise")
		}
	}
}
