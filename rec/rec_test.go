package rec_test

import (
	"fmt"
	"math"
	"math/rand"
	"slices"
	"strings"
	"testing"
	"unsafe"

	"budwood/api"
	"budwood/rec"
)

const (
	most     = 1 << 40 // Txn, Unit and Num at most
	mostList = 4000    // pairs at most
)

// letters is what each kind has, in the order of its bytes: T is Txn, P is Pass, U is Unit, N is Num, K is Key, V is Value, L is Pairs.
func letters(kind int) string {
	switch kind {
	case 1, 4, 5:
		return "T"
	case 2:
		return "TKV"
	case 3:
		return "TK"
	case 6:
		return "PUN"
	case 7:
		return "PUNL"
	}
	return ""
}

// low is a number's bytes, the lowest first.
func low(n, size int) string {
	b := make([]byte, size)
	for i := range b {
		b[i] = byte(n % 256)
		n /= 256
	}
	return string(b)
}

func six(n int) string { return low(n, 6) }

func long(t string) string { return string([]byte{byte(len(t))}) + t }

// bytesOf is a record as the document writes it, be it one that may be or not, as far as its numbers have room.
func bytesOf(r rec.Rec) string {
	s := low(r.Kind, 1)
	for _, c := range letters(r.Kind) {
		switch c {
		case 'T':
			s += six(r.Txn)
		case 'P':
			s += six(r.Pass)
		case 'U':
			s += six(r.Unit)
		case 'N':
			s += six(r.Num)
		case 'K':
			s += long(r.Key)
		case 'V':
			s += long(r.Value)
		case 'L':
			s += low(len(r.Pairs), 2) + listBytes(r.Pairs)
		}
	}
	return s
}

func listBytes(pairs []api.Pair) string {
	var b strings.Builder
	for _, p := range pairs {
		b.WriteString(long(p.Key))
		b.WriteString(long(p.Value))
	}
	return b.String()
}

// may is whether a record may be, by the document's words.
func may(r rec.Rec) bool {
	has := letters(r.Kind)
	if has == "" {
		return false
	}
	for _, x := range []struct {
		part     string
		zero, ok bool
	}{
		{"T", r.Txn == 0, 1 <= r.Txn && r.Txn <= most},
		{"P", r.Pass == 0, 0 <= r.Pass && r.Pass <= 4},
		{"U", r.Unit == 0, 0 <= r.Unit && r.Unit <= most},
		{"N", r.Num == 0, 0 <= r.Num && r.Num <= most},
		{"K", len(r.Key) == 0, 1 <= len(r.Key) && len(r.Key) <= 16},
		{"V", len(r.Value) == 0, len(r.Value) <= 32},
		{"L", len(r.Pairs) == 0, mayList(r.Pairs)},
	} {
		if strings.Contains(has, x.part) && !x.ok || !strings.Contains(has, x.part) && !x.zero {
			return false
		}
	}
	return true
}

func mayList(pairs []api.Pair) bool {
	for i, p := range pairs {
		if len(p.Key) < 1 || len(p.Key) > 16 || len(p.Value) > 32 {
			return false
		}
		if i > 0 && strings.Compare(pairs[i-1].Key, p.Key) >= 0 {
			return false
		}
	}
	return len(pairs) <= mostList
}

// read is the record whose bytes s are, if there is one that may be, by taking bytes off the beginning.
func read(s string) (rec.Rec, bool) {
	ok := true
	take := func(n int) string {
		if n > len(s) {
			ok, n = false, len(s)
		}
		t := s[:n]
		s = s[n:]
		return t
	}
	number := func(size int) int {
		n := 0
		for _, c := range slices.Backward([]byte(take(size))) {
			n = n*256 + int(c)
		}
		return n
	}
	text := func() string { return take(number(1)) }
	r := rec.Rec{Kind: number(1)}
	for _, c := range letters(r.Kind) {
		switch c {
		case 'T':
			r.Txn = number(6)
		case 'P':
			r.Pass = number(6)
		case 'U':
			r.Unit = number(6)
		case 'N':
			r.Num = number(6)
		case 'K':
			r.Key = text()
		case 'V':
			r.Value = text()
		case 'L':
			for n := number(2); n > 0 && ok; n-- {
				r.Pairs = append(r.Pairs, api.Pair{Key: text(), Value: text()})
			}
		}
	}
	if !ok || s != "" || !may(r) {
		return rec.Rec{}, false
	}
	return r, true
}

// alike is whether two records have the same in all parts, by what they are as texts of their own.
func alike(a, b rec.Rec) bool {
	if a.Kind != b.Kind || a.Txn != b.Txn || a.Pass != b.Pass || a.Unit != b.Unit || a.Num != b.Num {
		return false
	}
	if a.Key != b.Key || a.Value != b.Value || len(a.Pairs) != len(b.Pairs) {
		return false
	}
	for i := range a.Pairs {
		if a.Pairs[i].Key != b.Pairs[i].Key || a.Pairs[i].Value != b.Pairs[i].Value {
			return false
		}
	}
	return true
}

// isRight holds a record that may be against its bytes, there and back.
func isRight(t *testing.T, r rec.Rec, want string) {
	t.Helper()
	if !rec.Right(r) {
		t.Errorf("Right(%s) = false", show(r))
	}
	if s := rec.Encode(r); s != want {
		t.Errorf("Encode(%s) = %x; want %x", show(r), s, want)
	}
	if got, e := rec.Decode(want); !alike(got, r) || e != api.OK {
		t.Errorf("Decode(%x) = %s, %d; want %s", want, show(got), e, show(r))
	}
}

// isWrong holds a record that may not be.
func isWrong(t *testing.T, r rec.Rec) {
	t.Helper()
	if rec.Right(r) {
		t.Errorf("Right(%s) = true", show(r))
	}
	if s := rec.Encode(r); s != "" {
		t.Errorf("Encode(%s) = %x; want nothing", show(r), s)
	}
}

// isOdd holds bytes that are no record's; beside the error all is zero.
func isOdd(t *testing.T, s string) {
	t.Helper()
	r, e := rec.Decode(s)
	if e != api.ErrForm || !alike(r, rec.Rec{}) {
		if len(s) > 200 {
			s = s[:200]
		}
		t.Errorf("Decode(%x) = %s, %d; want nothing, ErrForm", s, show(r), e)
	}
}

// isAs holds a record against the document's words, be it one that may be or not.
func isAs(t *testing.T, r rec.Rec) {
	t.Helper()
	if may(r) {
		isRight(t, r, bytesOf(r))
	} else {
		isWrong(t, r)
	}
}

// show is a record as a text, with few of its pairs.
func show(r rec.Rec) string {
	return fmt.Sprintf("{%d %d %q %q %d %d %d %d %q}", r.Kind, r.Txn, r.Key, r.Value, r.Pass, r.Unit, r.Num, len(r.Pairs), r.Pairs[:min(len(r.Pairs), 5)])
}

// ordinary is one record of each kind, with something in each part that the kind has.
func ordinary() []rec.Rec {
	return []rec.Rec{
		{Kind: rec.Begin, Txn: 1},
		{Kind: rec.Put, Txn: 300, Key: "ab", Value: "xyz"},
		{Kind: rec.Del, Txn: 5, Key: "ab"},
		{Kind: rec.Commit, Txn: 0x060504030201 % most},
		{Kind: rec.Abort, Txn: 70000},
		{Kind: rec.Pass, Pass: 3, Unit: 258, Num: 65539},
		{Kind: rec.Check, Pass: 2, Unit: 9, Num: 1 << 39, Pairs: []api.Pair{{Key: "a", Value: "v"}, {Key: "b"}, {Key: "ba", Value: "\x00\xff"}}},
	}
}

// rising is n pairs whose keys rise.
func rising(n int) []api.Pair {
	var all []api.Pair
	for i := range n {
		all = append(all, api.Pair{Key: string([]byte{byte(i / 256), byte(i % 256)}), Value: strings.Repeat("v", i%33)})
	}
	return all
}

// edges are numbers at the edges that the document names, and beyond them.
func edges() []int {
	return []int{
		math.MinInt, math.MinInt32, -most, -5, -4, -2, -1, 0, 1, 2, 3, 4, 5, 6, 7, 8, 255, 256, 257, 65535, 65536,
		1<<32 - 1, 1 << 32, 1<<32 + 1, most - 1, most, most + 1, 1<<48 - 1, 1 << 48, 1<<48 + 1, 1 << 56, math.MaxInt,
	}
}

// texts are texts at the edges of keys and of values, of several bytes each.
func texts() []string {
	var all []string
	for _, fill := range []string{"x", "\x00", "\xff"} {
		for _, n := range []int{0, 1, 2, 15, 16, 17, 31, 32, 33, 34, 127, 128, 255, 256, 257, 272, 288, 512, 65536} {
			all = append(all, strings.Repeat(fill, n))
		}
	}
	return append(all, "é", strings.Repeat("é", 8), strings.Repeat("é", 9), strings.Repeat("é", 16), strings.Repeat("é", 17), "a\x00", "\x00a", "\xff\x00\xff")
}

// The kinds have the numbers that the document gives them.
func TestKinds(t *testing.T) {
	got := []int{rec.Begin, rec.Put, rec.Del, rec.Commit, rec.Abort, rec.Pass, rec.Check, rec.Kinds}
	if want := []int{1, 2, 3, 4, 5, 6, 7, 8}; !slices.Equal(got, want) {
		t.Errorf("the kinds are %v; want %v", got, want)
	}
}

// The document's example.
func TestExample(t *testing.T) {
	isRight(t, rec.Rec{Kind: rec.Del, Txn: 5, Key: "ab"}, "\x03\x05\x00\x00\x00\x00\x00\x02\x61\x62")
}

// P5.1: Key, of each length, in bytes, of any kind.
func TestKey(t *testing.T) {
	for _, fill := range []string{"a", "\x00", "\xff", " "} {
		for n := range 600 {
			if got, want := rec.Key(strings.Repeat(fill, n)), n >= 1 && n <= 16; got != want {
				t.Errorf("Key(%d bytes %q) = %t", n, fill, got)
			}
		}
	}
	for _, s := range texts() {
		if got, want := rec.Key(s), len(s) >= 1 && len(s) <= 16; got != want {
			t.Errorf("Key(%q) = %t", s, got)
		}
	}
}

// P5.1: Value, of each length, in bytes, of any kind.
func TestValue(t *testing.T) {
	for _, fill := range []string{"a", "\x00", "\xff", " "} {
		for n := range 600 {
			if got, want := rec.Value(strings.Repeat(fill, n)), n <= 32; got != want {
				t.Errorf("Value(%d bytes %q) = %t", n, fill, got)
			}
		}
	}
	for _, s := range texts() {
		if got, want := rec.Value(s), len(s) <= 32; got != want {
			t.Errorf("Value(%q) = %t", s, got)
		}
	}
}

// P5.1, P5.2: ordinary records of each kind, and their bytes, written out.
func TestOrdinary(t *testing.T) {
	for _, x := range []struct {
		r rec.Rec
		s string
	}{
		{rec.Rec{Kind: rec.Begin, Txn: 1}, "\x01" + "\x01\x00\x00\x00\x00\x00"},
		{rec.Rec{Kind: rec.Begin, Txn: 0x99887766}, "\x01" + "\x66\x77\x88\x99\x00\x00"},
		{rec.Rec{Kind: rec.Put, Txn: 300, Key: "ab", Value: "x"}, "\x02" + "\x2c\x01\x00\x00\x00\x00" + "\x02ab" + "\x01x"},
		{rec.Rec{Kind: rec.Put, Txn: 1, Key: "a"}, "\x02" + "\x01\x00\x00\x00\x00\x00" + "\x01a" + "\x00"},
		{rec.Rec{Kind: rec.Put, Txn: 1, Key: "\x00\xff", Value: "\xff\x00"}, "\x02" + "\x01\x00\x00\x00\x00\x00" + "\x02\x00\xff" + "\x02\xff\x00"},
		{rec.Rec{Kind: rec.Del, Txn: 0x807060504f, Key: "0123456789abcdef"}, "\x03" + "\x4f\x50\x60\x70\x80\x00" + "\x100123456789abcdef"},
		{rec.Rec{Kind: rec.Commit, Txn: most}, "\x04" + "\x00\x00\x00\x00\x00\x01"},
		{rec.Rec{Kind: rec.Abort, Txn: most - 1}, "\x05" + "\xff\xff\xff\xff\xff\x00"},
		{rec.Rec{Kind: rec.Pass}, "\x06" + strings.Repeat("\x00", 18)},
		{rec.Rec{Kind: rec.Pass, Pass: 4, Unit: 0x0504, Num: most}, "\x06" + "\x04\x00\x00\x00\x00\x00" + "\x04\x05\x00\x00\x00\x00" + "\x00\x00\x00\x00\x00\x01"},
		{rec.Rec{Kind: rec.Check}, "\x07" + strings.Repeat("\x00", 20)},
		{rec.Rec{Kind: rec.Check, Pass: 1, Unit: 2, Num: 3, Pairs: []api.Pair{{Key: "a", Value: "v"}, {Key: "b"}}},
			"\x07" + "\x01\x00\x00\x00\x00\x00" + "\x02\x00\x00\x00\x00\x00" + "\x03\x00\x00\x00\x00\x00" + "\x02\x00" + "\x01a\x01v" + "\x01b\x00"},
	} {
		isRight(t, x.r, x.s)
	}
	for _, r := range ordinary() {
		isRight(t, r, bytesOf(r))
	}
}

// P5.1: numbers that are no kind, whatever else the record has; kinds 1 and 7 are some.
func TestWrongKinds(t *testing.T) {
	for _, kind := range edges() {
		if kind >= 1 && kind <= 7 {
			continue
		}
		isWrong(t, rec.Rec{Kind: kind})
		for _, r := range ordinary() {
			r.Kind = kind
			isWrong(t, r)
		}
	}
	isRight(t, rec.Rec{Kind: 1, Txn: 1}, "\x01"+six(1))
	isRight(t, rec.Rec{Kind: 7}, "\x07"+six(0)+six(0)+six(0)+"\x00\x00")
}

// P5.1: each number at its edges, in each kind, also in those that have it not.
func TestNumbers(t *testing.T) {
	for _, r := range ordinary() {
		for _, n := range edges() {
			for _, part := range []func(*rec.Rec) *int{
				func(r *rec.Rec) *int { return &r.Txn },
				func(r *rec.Rec) *int { return &r.Pass },
				func(r *rec.Rec) *int { return &r.Unit },
				func(r *rec.Rec) *int { return &r.Num },
			} {
				c := r
				*part(&c) = n
				isAs(t, c)
			}
		}
	}
}

// P5.1: both texts at their edges, in each kind, also in those that have them not.
func TestTexts(t *testing.T) {
	for _, r := range ordinary() {
		for _, s := range texts() {
			c := r
			c.Key = s
			isAs(t, c)
			c = r
			c.Value = s
			isAs(t, c)
			c = r
			c.Pairs = []api.Pair{{Key: s}}
			isAs(t, c)
			c.Pairs = []api.Pair{{Key: "\x00", Value: "v"}, {Key: "\xff\xff", Value: s}, {Key: "\xff\xff\x00"}}
			isAs(t, c)
		}
	}
}

// P5.1: what a kind has not must be zero, each part of it alone.
func TestForeignParts(t *testing.T) {
	for _, r := range ordinary() {
		has := letters(r.Kind)
		for _, x := range []struct {
			part string
			lay  func(r *rec.Rec)
		}{
			{"T", func(r *rec.Rec) { r.Txn = 1 }},
			{"T", func(r *rec.Rec) { r.Txn = -1 }},
			{"P", func(r *rec.Rec) { r.Pass = 1 }},
			{"P", func(r *rec.Rec) { r.Pass = -1 }},
			{"U", func(r *rec.Rec) { r.Unit = 1 }},
			{"U", func(r *rec.Rec) { r.Unit = -1 }},
			{"N", func(r *rec.Rec) { r.Num = 1 }},
			{"N", func(r *rec.Rec) { r.Num = -1 }},
			{"K", func(r *rec.Rec) { r.Key = "a" }},
			{"K", func(r *rec.Rec) { r.Key = "\x00" }},
			{"V", func(r *rec.Rec) { r.Value = "a" }},
			{"V", func(r *rec.Rec) { r.Value = "\x00" }},
			{"L", func(r *rec.Rec) { r.Pairs = []api.Pair{{Key: "a"}} }},
			{"L", func(r *rec.Rec) { r.Pairs = make([]api.Pair, 1) }},
		} {
			if strings.Contains(has, x.part) {
				continue
			}
			c := r
			x.lay(&c)
			isWrong(t, c)
		}
	}
}

// P5.1: how many pairs there may be, and that their number stands lowest byte first.
func TestHowManyPairs(t *testing.T) {
	for _, n := range []int{0, 1, 2, 255, 256, 257, 3999, 4000} {
		r := rec.Rec{Kind: rec.Check, Unit: 1, Pairs: rising(n)}
		isRight(t, r, "\x07"+six(0)+six(1)+six(0)+string([]byte{byte(n), byte(n >> 8)})+listBytes(r.Pairs))
	}
	for _, n := range []int{4001, 4002, 8000, 65535, 65536, 65537} {
		r := rec.Rec{Kind: rec.Check, Unit: 1, Pairs: rising(n)}
		isWrong(t, r)
		isOdd(t, bytesOf(r))
		isOdd(t, bytesOf(r)[:21]+listBytes(r.Pairs[:mostList]))
	}
}

// P5.1, P5.2: all pairs as long as they may be.
func TestLongestRecord(t *testing.T) {
	pairs := rising(mostList)
	for i := range pairs {
		pairs[i].Key += strings.Repeat("\xff", 14)
		pairs[i].Value = strings.Repeat("\x00", 32)
	}
	r := rec.Rec{Kind: rec.Check, Pass: 4, Unit: most, Num: most, Pairs: pairs}
	isRight(t, r, bytesOf(r))
	if n := len(rec.Encode(r)); n != 21+mostList*50 {
		t.Errorf("%d bytes", n)
	}
	pairs[mostList-1].Value += "x"
	isWrong(t, r)
}

// P5.1, P5.2: keys of pairs rise, byte by byte; if they are the same, or fall, there is no such record, and there are no such bytes.
func TestOrderOfPairs(t *testing.T) {
	keys := []string{"\x00", "\x00\x00", "\x00\x01", "\x01", "A", "a", "a\x00", "aa", "ab", "b", "b0", "\x7f", "\x80", "\xc3\xa9", "\xfe", "\xff", "\xff\x00", "\xff\xff", strings.Repeat("\xff", 15), strings.Repeat("\xff", 16)}
	for i, first := range keys {
		for j, second := range keys {
			two := rec.Rec{Kind: rec.Check, Pairs: []api.Pair{{Key: first, Value: "z"}, {Key: second, Value: "a"}}}
			more := rec.Rec{Kind: rec.Check, Pairs: []api.Pair{{Key: "\x00", Value: "v"}, {Key: "\x00\x00\x00" + first[:1]}, {Key: first}, {Key: second}}}
			if rec.Right(two) != (i < j) {
				t.Errorf("Right of keys %q, %q = %t", first, second, !(i < j))
			}
			for _, r := range []rec.Rec{two, more} {
				isAs(t, r)
				if !may(r) {
					isOdd(t, bytesOf(r))
				}
			}
		}
	}
}

// P5.1: one pair alone that stands wrong, at each place among others.
func TestOneWrongPair(t *testing.T) {
	for _, n := range []int{2, 3, 10, 300} {
		for i := range n {
			r := rec.Rec{Kind: rec.Check, Pairs: rising(n)}
			was := r.Pairs[i]
			for _, p := range []api.Pair{{Key: "", Value: "a"}, {Key: strings.Repeat("x", 17)}, {Key: was.Key, Value: strings.Repeat("v", 33)}} {
				r.Pairs[i] = p
				isWrong(t, r)
				isOdd(t, bytesOf(r))
			}
			r.Pairs[i] = was
			if i == 0 {
				continue
			}
			r.Pairs[i].Key = r.Pairs[i-1].Key
			isWrong(t, r)
			isOdd(t, bytesOf(r))
			r.Pairs[i] = was
			r.Pairs[i], r.Pairs[i-1] = r.Pairs[i-1], r.Pairs[i]
			isWrong(t, r)
			isOdd(t, bytesOf(r))
		}
	}
}

// P5.2: no bytes, one byte, two bytes: none of them are a record's.
func TestFewBytes(t *testing.T) {
	isOdd(t, "")
	for i := range 256 {
		isOdd(t, string([]byte{byte(i)}))
		for j := range 256 {
			isOdd(t, string([]byte{byte(i), byte(j)}))
		}
	}
}

// P5.2: bytes of which some lack at the end, or that are more by some, or that lack at the beginning.
func TestCutAndLonger(t *testing.T) {
	records := append(ordinary(), rec.Rec{Kind: rec.Put, Txn: 1, Key: "a"}, rec.Rec{Kind: rec.Check}, rec.Rec{Kind: rec.Check, Pairs: rising(100)},
		rec.Rec{Kind: rec.Put, Txn: most, Key: strings.Repeat("k", 16), Value: strings.Repeat("v", 32)})
	for _, r := range records {
		s := bytesOf(r)
		for n := range len(s) {
			isOdd(t, s[:n])
		}
		for i := range 256 {
			isOdd(t, s+string([]byte{byte(i)}))
		}
		isOdd(t, s+s)
		isOdd(t, s+strings.Repeat("\x00", 300))
		isOdd(t, "\x00"+s)
	}
}

// P5.2: bytes that begin with no kind, whatever follows.
func TestNoSuchKind(t *testing.T) {
	for i := range 256 {
		if i >= 1 && i <= 7 {
			continue
		}
		for _, r := range ordinary() {
			isOdd(t, string([]byte{byte(i)})+bytesOf(r)[1:])
		}
		for n := range 30 {
			isOdd(t, string([]byte{byte(i)})+strings.Repeat("\x00", n))
		}
	}
}

// P5.2: numbers that stand there whole, and may not be.
func TestNumbersInBytes(t *testing.T) {
	for _, n := range edges() {
		if n < 0 || n >= 1<<48 {
			continue
		}
		txn, far := n >= 1 && n <= most, n <= most
		for _, x := range []struct {
			s  string
			ok bool
		}{
			{"\x01" + six(n), txn}, {"\x04" + six(n), txn}, {"\x05" + six(n), txn},
			{"\x02" + six(n) + "\x01a\x01b", txn}, {"\x03" + six(n) + "\x01a", txn},
			{"\x06" + six(n) + six(0) + six(0), n <= 4}, {"\x06" + six(0) + six(n) + six(0), far}, {"\x06" + six(0) + six(0) + six(n), far},
			{"\x07" + six(n) + six(0) + six(0) + "\x00\x00", n <= 4}, {"\x07" + six(0) + six(n) + six(0) + "\x00\x00", far}, {"\x07" + six(0) + six(0) + six(n) + "\x00\x00", far},
		} {
			if !x.ok {
				isOdd(t, x.s)
				continue
			}
			r, e := rec.Decode(x.s)
			if e != api.OK || bytesOf(r) != x.s {
				t.Errorf("Decode(%x) = %s, %d", x.s, show(r), e)
			}
		}
	}
}

// P5.2: each length of a key and of a value that a byte can tell, with fewer bytes behind it, with as many, and with more.
func TestLengthsInBytes(t *testing.T) {
	for n := range 256 {
		for _, there := range []int{0, 1, n - 1, n, n + 1, 300} {
			if there < 0 {
				continue
			}
			text := low(n, 1) + strings.Repeat("x", there)
			for _, s := range []string{
				"\x03" + six(1) + text,
				"\x02" + six(1) + "\x01a" + text,
				"\x02" + six(1) + text + "\x00",
				"\x07" + six(0) + six(0) + six(0) + "\x01\x00" + text + "\x01v",
				"\x07" + six(0) + six(0) + six(0) + "\x01\x00" + "\x01a" + text,
				"\x07" + six(0) + six(0) + six(0) + "\x02\x00" + "\x01a\x00\x01b" + text,
			} {
				asRead(t, s)
			}
		}
	}
}

// asRead holds Decode of any bytes against the bytes taken one by one, and P5.3: what is decoded has these bytes, and no others.
func asRead(t *testing.T, s string) bool {
	t.Helper()
	want, ok := read(s)
	if !ok {
		isOdd(t, s)
		return false
	}
	if r, e := rec.Decode(s); !alike(r, want) || e != api.OK {
		t.Errorf("Decode(%x) = %s, %d; want %s", s, show(r), e, show(want))
	}
	if got := rec.Encode(want); got != s {
		t.Errorf("Encode(%s) = %x; want %x", show(want), got, s)
	}
	return true
}

// P5.2: a count of pairs that is too large, or too small, for those that follow.
func TestWrongCounts(t *testing.T) {
	head := "\x07" + six(0) + six(0) + six(0)
	for _, n := range []int{0, 1, 2, 255, 256, 257, 4000} {
		list := listBytes(rising(n))
		for _, told := range []int{0, 1, 2, n - 1, n, n + 1, n + 2, 255, 256, 257, 512, 3999, 4000, 4001, 32768, 65535} {
			if told < 0 {
				continue
			}
			if ok := asRead(t, head+low(told, 2)+list); ok != (told == n) {
				t.Errorf("%d pairs, told as %d: %t", n, told, ok)
			}
		}
	}
	isOdd(t, head+"\x00\x01"+"\x01a\x00")     // the highest byte first
	isOdd(t, head+"\x01"+"\x01a\x00")         // one byte alone
	isOdd(t, head+"\x01\x00\x00"+"\x01a\x00") // three of them
}

// P5.2: each byte of some records, laid over by each other one, and taken out, and put in once more.
func TestEachByte(t *testing.T) {
	for _, r := range ordinary() {
		s := bytesOf(r)
		for i := range s {
			for c := range 256 {
				asRead(t, s[:i]+string([]byte{byte(c)})+s[i+1:])
				asRead(t, s[:i]+string([]byte{byte(c)})+s[i:])
			}
			asRead(t, s[:i]+s[i+1:])
		}
	}
}

// P5.2: Same, of records that differ in one part alone, be they ones that may be or not.
func TestSame(t *testing.T) {
	pairs := []api.Pair{{Key: "ab", Value: "c"}, {Key: "b", Value: ""}}
	base := rec.Rec{Kind: 2, Txn: 3, Key: "ab", Value: "cd", Pass: 5, Unit: 6, Num: 7, Pairs: pairs}
	all := []rec.Rec{{}, base, {Kind: 1}, {Txn: 1}, {Pass: 1}, {Unit: 1}, {Num: 1}, {Key: "a"}, {Value: "a"}, {Pairs: make([]api.Pair, 1)}, {Pairs: make([]api.Pair, 2)}}
	for _, lay := range []func(r *rec.Rec){
		func(r *rec.Rec) { r.Kind++ }, func(r *rec.Rec) { r.Kind = -r.Kind }, func(r *rec.Rec) { r.Kind += 256 },
		func(r *rec.Rec) { r.Txn++ }, func(r *rec.Rec) { r.Txn += 1 << 48 }, func(r *rec.Rec) { r.Txn = math.MinInt },
		func(r *rec.Rec) { r.Pass++ }, func(r *rec.Rec) { r.Unit++ }, func(r *rec.Rec) { r.Num++ },
		func(r *rec.Rec) { r.Unit, r.Num = r.Num, r.Unit }, func(r *rec.Rec) { r.Txn, r.Pass = r.Pass, r.Txn },
		func(r *rec.Rec) { r.Key = "ac" }, func(r *rec.Rec) { r.Key = "" }, func(r *rec.Rec) { r.Key = "ab\x00" }, func(r *rec.Rec) { r.Key, r.Value = "abc", "d" },
		func(r *rec.Rec) { r.Value = "Cd" }, func(r *rec.Rec) { r.Value = "" }, func(r *rec.Rec) { r.Value = "cd\x00" },
		func(r *rec.Rec) { r.Pairs = nil }, func(r *rec.Rec) { r.Pairs = pairs[:1] }, func(r *rec.Rec) { r.Pairs = pairs[1:] },
		func(r *rec.Rec) { r.Pairs = []api.Pair{pairs[1], pairs[0]} }, func(r *rec.Rec) { r.Pairs = []api.Pair{pairs[0], pairs[0]} },
		func(r *rec.Rec) { r.Pairs = []api.Pair{pairs[0], pairs[1], {}} }, func(r *rec.Rec) { r.Pairs = []api.Pair{{Key: "a", Value: "bc"}, pairs[1]} },
		func(r *rec.Rec) { r.Pairs = []api.Pair{pairs[0], {Key: "b", Value: "\x00"}} }, func(r *rec.Rec) { r.Pairs = []api.Pair{pairs[0], {Key: "c", Value: ""}} },
	} {
		c := base
		lay(&c)
		all = append(all, c)
	}
	for i, a := range all {
		for j, b := range all {
			b.Pairs = slices.Clone(b.Pairs)
			if got := rec.Same(a, b); got != (i == j) {
				t.Errorf("Same(%s, %s) = %t", show(a), show(b), got)
			}
		}
	}
}

// P5.2: Same, of many pairs of which the last one differs, or is one more.
func TestSameLongLists(t *testing.T) {
	for _, n := range []int{1, 4000, 5000} {
		a, b := rec.Rec{Pairs: rising(n)}, rec.Rec{Pairs: rising(n)}
		if !rec.Same(a, b) || !rec.Same(a, a) {
			t.Errorf("%d pairs are not the same", n)
		}
		b.Pairs[n-1].Value += "x"
		c := rec.Rec{Pairs: rising(n + 1)}
		for _, other := range []rec.Rec{b, c} {
			if rec.Same(a, other) || rec.Same(other, a) {
				t.Errorf("%d pairs are the same", n)
			}
		}
	}
}

// R3: no list of pairs and an empty one are the same, in each call, with each kind.
func TestEmptyLists(t *testing.T) {
	spare := rising(3)
	for _, r := range ordinary() {
		r.Pairs = nil
		for _, empty := range [][]api.Pair{{}, spare[:0], spare[3:]} {
			e := r
			e.Pairs = empty
			isRight(t, e, bytesOf(r))
			if !rec.Same(r, e) || !rec.Same(e, r) || !rec.Same(e, e) {
				t.Errorf("%s is not the same with an empty list", show(r))
			}
			e.Txn = -1
			isWrong(t, e)
		}
		got, e := rec.Decode(bytesOf(r))
		if len(got.Pairs) != 0 || e != api.OK {
			t.Errorf("Decode tells %s, %d", show(got), e)
		}
	}
}

// few are all records of which each part that the kind has is one of few.
func few() []rec.Rec {
	numbers, keys := []int{0, 1, 2, 4, 256, most}, []string{"\x00", "\x01", "a", "\x01a", "aa", "\x00\x00"}
	values := []string{"", "\x00", "a", "\x01a", "\x00\x00"}
	lists := [][]api.Pair{nil, {{Key: "\x00"}}, {{Key: "a"}}, {{Key: "a", Value: "\x01a\x00"}}, {{Key: "a"}, {Key: "b"}}, {{Key: "\x00"}, {Key: "\x00\x00"}}, {{Key: "\x00", Value: "\x01"}, {Key: "\x00\x00"}}}
	all := []rec.Rec{{}}
	every := func(n int, lay func(r *rec.Rec, i int)) {
		var more []rec.Rec
		for _, r := range all {
			for i := range n {
				lay(&r, i)
				more = append(more, r)
			}
		}
		all = more
	}
	var whole []rec.Rec
	for kind := 1; kind <= 7; kind++ {
		all = []rec.Rec{{Kind: kind}}
		for _, c := range letters(kind) {
			switch c {
			case 'T':
				every(len(numbers), func(r *rec.Rec, i int) { r.Txn = numbers[i] })
			case 'P':
				every(len(numbers), func(r *rec.Rec, i int) { r.Pass = numbers[i] })
			case 'U':
				every(len(numbers), func(r *rec.Rec, i int) { r.Unit = numbers[i] })
			case 'N':
				every(len(numbers), func(r *rec.Rec, i int) { r.Num = numbers[i] })
			case 'K':
				every(len(keys), func(r *rec.Rec, i int) { r.Key = keys[i] })
			case 'V':
				every(len(values), func(r *rec.Rec, i int) { r.Value = values[i] })
			case 'L':
				every(len(lists), func(r *rec.Rec, i int) { r.Pairs = lists[i] })
			}
		}
		whole = append(whole, all...)
	}
	return whole
}

// P5.3: of many records no two have the same bytes, none has bytes with which another one's begin, and each is the one that its bytes are.
func TestOneRowOfBytes(t *testing.T) {
	var rows []string
	right := 0
	for _, r := range few() {
		isAs(t, r)
		if !may(r) {
			continue
		}
		right++
		rows = append(rows, rec.Encode(r))
		if again := rec.Encode(r); again != rows[len(rows)-1] {
			t.Errorf("%s is %x, and then %x", show(r), rows[len(rows)-1], again)
		}
	}
	slices.Sort(rows)
	for i := 1; i < len(rows); i++ {
		if strings.HasPrefix(rows[i], rows[i-1]) {
			t.Errorf("%x and %x belong to two records", rows[i-1], rows[i])
		}
	}
	if right < 1000 {
		t.Errorf("only %d records may be", right)
	}
}

// chance makes records and bytes, the same ones in every run.
type chance struct{ *rand.Rand }

func (c chance) text(most int) string {
	b := make([]byte, c.Intn(most+1))
	for i := range b {
		b[i] = []byte{0, 1, 'a', 'b', 127, 128, 254, 255}[c.Intn(8)]
	}
	return string(b)
}

func (c chance) number(most int) int {
	switch c.Intn(4) {
	case 0:
		return c.Intn(min(most, 5) + 1)
	case 1:
		return most - c.Intn(min(most, 3)+1)
	}
	return int(c.Int63n(int64(most) + 1))
}

// record is one that may be, but for a Txn or a key that is now and then nothing.
func (c chance) record() rec.Rec {
	r := rec.Rec{Kind: 1 + c.Intn(7)}
	for _, x := range letters(r.Kind) {
		switch x {
		case 'T':
			r.Txn = c.number(most)
		case 'P':
			r.Pass = c.number(4)
		case 'U':
			r.Unit = c.number(most)
		case 'N':
			r.Num = c.number(most)
		case 'K':
			r.Key = c.text(16)
		case 'V':
			r.Value = c.text(32)
		case 'L':
			r.Pairs = c.pairs()
		}
	}
	return r
}

func (c chance) pairs() []api.Pair {
	var all []api.Pair
	for range c.Intn(6) {
		all = append(all, api.Pair{Key: c.text(16), Value: c.text(32)})
	}
	slices.SortFunc(all, func(a, b api.Pair) int { return strings.Compare(a.Key, b.Key) })
	return all
}

// P5.1 to P5.3: records by chance, some with a part that does not belong there, and their bytes with a few changed.
func TestByChance(t *testing.T) {
	c := chance{rand.New(rand.NewSource(5))}
	right, wrong, decoded, odd := 0, 0, 0, 0
	for range 30000 {
		r := c.record()
		if c.Intn(3) == 0 {
			other := c.record()
			for _, lay := range []func(){
				func() { r.Kind = c.Intn(9) }, func() { r.Txn = other.Txn }, func() { r.Pass = other.Pass + c.Intn(3) - 1 }, func() { r.Unit = other.Unit - c.Intn(2) },
				func() { r.Num = other.Num + c.Intn(2) }, func() { r.Key = c.text(18) }, func() { r.Value = c.text(35) }, func() { r.Pairs = other.Pairs },
			} {
				if c.Intn(8) == 0 {
					lay()
				}
			}
		}
		isAs(t, r)
		if may(r) {
			right++
		} else {
			wrong++
		}
		b := []byte(bytesOf(r))
		for range c.Intn(3) {
			at := c.Intn(len(b))
			switch c.Intn(3) {
			case 0:
				b[at] = byte(c.Intn(256))
			case 1:
				b[at] += byte(c.Intn(3)) - 1
			case 2:
				b = append(b[:at:at], b[min(at+1+c.Intn(3), len(b)):]...)
				b = append(b, c.text(3)...)
			}
			if len(b) == 0 {
				break
			}
		}
		if asRead(t, string(b)) {
			decoded++
		} else {
			odd++
		}
	}
	for _, n := range []int{right, wrong, decoded, odd} {
		if n < 3000 {
			t.Errorf("%d may be, %d may not; %d rows of bytes are some record's, %d are not", right, wrong, decoded, odd)
		}
	}
}

// R4: what is handed in is neither changed nor kept, nor the room behind it.
func TestHandedIn(t *testing.T) {
	room := rising(6)
	was := slices.Clone(room)
	r := rec.Rec{Kind: rec.Check, Pairs: room[1:4]}
	wrong := rec.Rec{Kind: rec.Check, Pairs: []api.Pair{room[3], room[2], room[2]}}
	wrongWas := slices.Clone(wrong.Pairs)
	s := rec.Encode(r)
	rec.Encode(wrong)
	rec.Right(r)
	rec.Right(wrong)
	rec.Same(r, wrong)
	rec.Same(r, r)
	if !slices.Equal(room, was) || !slices.Equal(wrong.Pairs, wrongWas) {
		t.Errorf("the pairs became %q, %q", room, wrong.Pairs)
	}
	room[2] = api.Pair{Key: "z", Value: "z"}
	if want := "\x07" + six(0) + six(0) + six(0) + "\x03\x00" + listBytes(was[1:4]); s != want {
		t.Errorf("the bytes became %x; want %x", s, want)
	}
}

// R4: a record keeps nothing of the bytes out of which it was read, and the other way round.
func TestNothingShared(t *testing.T) {
	for _, r := range ordinary() {
		want := bytesOf(r)
		b := []byte(want)
		got, e := rec.Decode(unsafe.String(&b[0], len(b)))
		if e != api.OK || string(b) != want {
			t.Fatalf("Decode = %s, %d; the bytes are %x", show(got), e, b)
		}
		for i := range b {
			b[i] = '#'
		}
		if !alike(got, r) {
			t.Errorf("with other bytes the record became %s; want %s", show(got), show(r))
		}
		key, value := []byte("key"), []byte("value")
		c := rec.Rec{Kind: rec.Put, Txn: 1, Key: unsafe.String(&key[0], 3), Value: unsafe.String(&value[0], 5)}
		s := rec.Encode(c)
		key[0], value[0] = '#', '#'
		if s != "\x02"+six(1)+"\x03key\x05value" {
			t.Errorf("with other texts the bytes became %q", s)
		}
	}
}

// R4, R5: two answers are the same, and share nothing, spare room neither.
func TestAnswered(t *testing.T) {
	for n := range 20 { // some of these leave spare room behind the pairs
		r := rec.Rec{Kind: rec.Check, Pairs: rising(n)}
		s := bytesOf(r)
		first, _ := rec.Decode(s)
		second, _ := rec.Decode(s)
		all := first.Pairs[:cap(first.Pairs)]
		for i := range all {
			all[i] = api.Pair{Key: "#"}
		}
		third, _ := rec.Decode(s)
		if !alike(second, r) || !alike(third, r) {
			t.Errorf("%d pairs: %s, then %s", n, show(second), show(third))
		}
		if one, other := rec.Encode(r), rec.Encode(r); one != other || unsafe.StringData(one) == unsafe.StringData(other) {
			t.Errorf("%d pairs: bytes differ, or are shared", n)
		}
	}
}
