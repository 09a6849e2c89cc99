package inner_test

import (
	"maps"
	"math/rand"
	"slices"
	"strings"
	"testing"

	"budwood/api"
	"budwood/inner"
)

// model is a page as the document's words have it: the kids in a map, each by the key from which on it is led to, the first one by none.
type model struct {
	kids map[string]int
	high string
	next int
}

func (m model) from() []string { return slices.Sorted(maps.Keys(m.kids)) }

func (m model) page() inner.Inner {
	n := inner.Inner{High: m.high, Next: m.next}
	for _, from := range m.from() {
		n.Kids = append(n.Kids, m.kids[from])
		if from != "" {
			n.Seps = append(n.Seps, from)
		}
	}
	return n
}

// size is how many bytes the separators make, with the kids behind them.
func (m model) size() int {
	n := 0
	for from := range m.kids {
		if from != "" {
			n += 1 + len(from) + 2
		}
	}
	return n
}

func (m model) copy() model {
	m.kids = maps.Clone(m.kids)
	return m
}

func (m model) isKey(key string) bool {
	return len(key) >= 1 && len(key) <= 16 && (len(m.high) == 0 || strings.Compare(key, m.high) < 0)
}

// leads is where the kid stands to which a key leads, by asking all.
func (m model) leads(key string) int {
	at := -1
	for from := range m.kids {
		if strings.Compare(from, key) <= 0 {
			at++
		}
	}
	return at
}

func (m model) find(key string) (int, api.Errno) {
	if !m.isKey(key) {
		return 0, api.ErrArg
	}
	return m.leads(key), api.OK
}

func (m model) put(key string, kid int) (inner.Inner, api.Errno) {
	if !m.isKey(key) || kid < 0 || kid > 1023 {
		return inner.Inner{}, api.ErrArg
	}
	if _, is := m.kids[key]; is {
		return inner.Inner{}, api.ErrTwice
	}
	m = m.copy()
	m.kids[key] = kid
	if 7+16+m.size() > 252 {
		return inner.Inner{}, api.ErrFull
	}
	return m.page(), api.OK
}

func (m model) del(i int) (inner.Inner, api.Errno) {
	if i < 0 || i >= len(m.kids) || len(m.kids) == 1 {
		return inner.Inner{}, api.ErrArg
	}
	all := m.from()
	m = m.copy()
	if i == 0 { // the next kid is the first one
		m.kids[""] = m.kids[all[1]]
		i = 1
	}
	delete(m.kids, all[i])
	return m.page(), api.OK
}

func (m model) turn(i, kid int) (inner.Inner, api.Errno) {
	if i < 0 || i >= len(m.kids) || kid < 0 || kid > 1023 {
		return inner.Inner{}, api.ErrArg
	}
	m = m.copy()
	m.kids[m.from()[i]] = kid
	return m.page(), api.OK
}

func (m model) split(page int) (model, model, string, api.Errno) {
	if len(m.kids) < 3 || page < 0 || page > 1023 {
		return model{}, model{}, "", api.ErrArg
	}
	key := m.from()[1+(len(m.kids)-1)/2]
	a, b := model{map[string]int{}, key, page + 1}, model{map[string]int{}, m.high, m.next}
	for from, kid := range m.kids {
		switch c := strings.Compare(from, key); {
		case c < 0:
			a.kids[from] = kid
		case c == 0:
			b.kids[""] = kid
		default:
			b.kids[from] = kid
		}
	}
	return a, b, key, api.OK
}

// mayBe is whether a page may be, by the document's words.
func mayBe(n inner.Inner) bool {
	size := 7 + 16
	for i, sep := range n.Seps {
		size += 1 + len(sep) + 2
		if len(sep) < 1 || len(sep) > 16 {
			return false
		}
		if i > 0 && strings.Compare(n.Seps[i-1], sep) >= 0 {
			return false
		}
		if len(n.High) > 0 && strings.Compare(sep, n.High) >= 0 {
			return false
		}
	}
	for _, kid := range n.Kids {
		if kid < 0 || kid > 1023 {
			return false
		}
	}
	return len(n.Kids)-1 == len(n.Seps) && size <= 252 && len(n.High) <= 16 && 0 <= n.Next && n.Next <= 1024
}

func textOf(t string) string { return string([]byte{byte(len(t))}) + t }

func twoOf(n int) string { return string([]byte{byte(n % 256), byte(n / 256)}) }

// bytesOf is a page, that has kids enough, as the document writes it.
func bytesOf(n inner.Inner) string {
	s := "N" + string([]byte{byte(len(n.Seps))}) + twoOf(n.Next) + textOf(n.High) + twoOf(n.Kids[0])
	for i, sep := range n.Seps {
		s += textOf(sep) + twoOf(n.Kids[i+1])
	}
	return s
}

// pageAt is the page that may be whose bytes s has at its beginning, if there is one, by taking bytes off the beginning.
func pageAt(s string) (inner.Inner, bool) {
	fine, all := true, s
	take := func(n int) string {
		if n > len(s) {
			fine, n = false, len(s)
		}
		t := s[:n]
		s = s[n:]
		return t
	}
	number := func(bytes int) int {
		n, place := 0, 1
		for range bytes {
			for _, b := range []byte(take(1)) {
				n += place * int(b)
			}
			place *= 256
		}
		return n
	}
	if len(all) > 252 || take(1) != "N" {
		return inner.Inner{}, false
	}
	count := number(1)
	n := inner.Inner{Next: number(2)}
	n.High = take(number(1))
	n.Kids = append(n.Kids, number(2))
	for range count {
		n.Seps = append(n.Seps, take(number(1)))
		n.Kids = append(n.Kids, number(2))
	}
	if !fine || strings.Trim(s, "\x00") != "" || !mayBe(n) {
		return inner.Inner{}, false
	}
	return n, true
}

// chance makes keys, kids and pages.
type chance struct{ *rand.Rand }

func (c chance) text(most int) string {
	b := make([]byte, c.Intn(most+1))
	for i := range b {
		b[i] = "\x00\x01ab\x7f\x80\xff"[c.Intn(7)]
	}
	return string(b)
}

// key is one of few, of many, or none at all.
func (c chance) key() string {
	switch c.Intn(4) {
	case 0:
		return c.text(17)
	case 1:
		return c.text(2)
	}
	return string([]byte{byte('a' + c.Intn(8))})
}

// kid is one that may be, but for a few.
func (c chance) kid() int {
	switch c.Intn(8) {
	case 0:
		return c.Intn(2000) - 500
	case 1:
		return []int{-1, 0, 255, 256, 1023, 1024}[c.Intn(6)]
	}
	return c.Intn(1024)
}

func (c chance) model() model {
	m := model{kids: map[string]int{"": c.Intn(1024)}, next: c.Intn(1025)}
	for range []int{0, 3, 12, 60}[c.Intn(4)] {
		if key := c.key(); len(key) >= 1 && len(key) <= 16 {
			m.kids[key] = c.Intn(1024)
		}
		for m.size() > 229 {
			delete(m.kids, m.from()[len(m.kids)-1])
		}
	}
	if high := c.key(); c.Intn(2) == 0 && len(high) <= 16 {
		m.high = high
		maps.DeleteFunc(m.kids, func(from string, _ int) bool { return high != "" && from >= high })
	}
	return m
}

// spoiled is a page with one thing changed, that may be one thereafter or not.
func (c chance) spoiled(n inner.Inner) inner.Inner {
	n = clone(n)
	s := len(n.Seps)
	switch c.Intn(7) {
	case 0:
		n.High = c.text(18)
	case 1:
		n.Next = c.Intn(1100) - 40
	case 2:
		n.Seps, n.Kids = append(n.Seps, c.text(17)), append(n.Kids, c.Intn(1024))
	case 3:
		if s > 0 {
			n.Seps[c.Intn(s)] = c.text(17)
		}
	case 4:
		n.Kids[c.Intn(s+1)] = c.kid()
	case 5:
		if s > 0 {
			i, j := c.Intn(s), c.Intn(s)
			n.Seps[i], n.Seps[j] = n.Seps[j], n.Seps[i]
		}
	case 6:
		for i := range 8 {
			n.Seps, n.Kids = append(n.Seps, string([]byte{0xff, 0xff, 0xff, byte(i)})+c.text(12)), append(n.Kids, i)
		}
	}
	return n
}

// P11.1: Right, Size, Encode and Decode, by chance.
func TestBytesByChance(t *testing.T) {
	c := chance{rand.New(rand.NewSource(1))}
	count := [2]int{}
	for range 40000 {
		n := c.model().page()
		if c.Intn(2) == 0 {
			n = c.spoiled(n)
		}
		want, may := "", mayBe(n)
		if may {
			want = bytesOf(n)
			count[0]++
		} else {
			count[1]++
		}
		if got := inner.Right(n); got != may {
			t.Fatalf("Right(%+v) = %v", n, got)
		}
		if got := inner.Encode(n); got != want {
			t.Fatalf("Encode(%+v) = %q; want %q", n, got, want)
		}
		if size := inner.Size(n); size != len(bytesOf(n)) {
			t.Fatalf("Size(%+v) = %d", n, size)
		}
		if !may {
			if n.Next >= 0 && slices.Min(n.Kids) >= 0 { // what is below 0 has no bytes of its own
				noPage(t, bytesOf(n))
			}
			continue
		}
		if got, e := inner.Decode(want + strings.Repeat("\x00", c.Intn(253-len(want)))); !inner.Same(got, n) || e != api.OK {
			t.Fatalf("Decode(%q) = %+v, %d", want, got, e)
		}
	}
	if count[0] < 10000 || count[1] < 5000 {
		t.Error(count)
	}
}

// P11.1: Decode, of bytes one or some of which are others.
func TestDecodeByChance(t *testing.T) {
	c := chance{rand.New(rand.NewSource(2))}
	count := [2]int{}
	for range 60000 {
		b := []byte(bytesOf(c.model().page()))
		if c.Intn(2) == 0 {
			b = append(b, make([]byte, c.Intn(254-len(b)))...)
		}
		for range c.Intn(3) {
			switch i := c.Intn(len(b)); c.Intn(4) {
			case 0:
				b[i] = byte(c.Intn(256))
			case 1:
				b[i] += byte(c.Intn(3) - 1)
			case 2:
				b = append(b[:i], append([]byte{byte(c.Intn(4))}, b[i:]...)...)
			case 3:
				if len(b) > 1 {
					b = append(b[:i], b[i+1:]...)
				}
			}
		}
		s := string(b)
		want, is := pageAt(s)
		if !is {
			count[0]++
			noPage(t, s)
			continue
		}
		count[1]++
		if got, e := inner.Decode(s); !inner.Same(got, want) || e != api.OK {
			t.Fatalf("Decode(%q) = %+v, %d; want %+v", s, got, e, want)
		}
	}
	if count[0] < 10000 || count[1] < 10000 {
		t.Error(count)
	}
}

// P11.1: Decode, of all bytes that are an example's but for one, which is any other.
func TestDecodeEachByte(t *testing.T) {
	for _, s := range []string{
		"N\x02\x01\x03\x01d\x01\x02\x01a\x02\x03\x02bc\x07\x00", "N\x02\x00\x04\x02ba\xff\x03\x01a\x00\x00\x01b\x00\x00\x00\x00\x00",
		"N\x03\x00\x00\x00\x00\x01\x01\x00\x00\x00\x02\x00\x00\x01\x00\x01\x01\x00\x00", "N\x00\x00\x00\x00\x00\x00" + strings.Repeat("\x00", 245),
	} {
		if _, is := pageAt(s); !is {
			t.Errorf("%q: no example", s)
		}
		for i := range len(s) {
			for v := range 256 {
				one := s[:i] + string([]byte{byte(v)}) + s[i+1:]
				want, is := pageAt(one)
				if !is {
					noPage(t, one)
				} else if got, e := inner.Decode(one); !inner.Same(got, want) || e != api.OK {
					t.Errorf("Decode(%q) = %+v, %d; want %+v", one, got, e, want)
				}
			}
		}
	}
}

func sameAnswer(t *testing.T, what string, m model, got, want inner.Inner, e, f api.Errno) {
	t.Helper()
	if !inner.Same(got, want) || e != f || e != api.OK && !bare(got) {
		t.Fatalf("%s of %+v: %+v, %d; want %+v, %d", what, m, got, e, want, f)
	}
	if e == api.OK && !mayBe(got) {
		t.Fatalf("%s of %+v: %+v, that may not be", what, m, got)
	}
}

// probes are keys at, and around, those from which on something is led to.
func probes(m model, more ...string) []string {
	all := append([]string{"\x00", "0", "\xff\xff\xff"}, more...)
	for _, key := range append(m.from(), more...) {
		all = append(all, key, key+"\x00", key+"\xff")
		if key != "" {
			all = append(all, key[:len(key)-1], key[:len(key)-1]+string([]byte{key[len(key)-1] - 1, 0xff}))
		}
	}
	return slices.DeleteFunc(all, func(key string) bool { return !m.isKey(key) })
}

// kidOf is the kid to which a key leads.
func kidOf(t *testing.T, n inner.Inner, key string) int {
	t.Helper()
	at, e := inner.Find(n, key)
	if e != api.OK || at < 0 || at >= len(n.Kids) {
		t.Fatalf("Find(%+v, %q) = %d, %d", n, key, at, e)
	}
	return n.Kids[at]
}

// asked holds all that is told of a page against its model.
func asked(t *testing.T, m model, key string, i, kid int) {
	t.Helper()
	n := m.page()
	at, e := inner.Find(n, key)
	if want, f := m.find(key); at != want || e != f {
		t.Fatalf("Find %q in %+v: %d, %d; want %d, %d", key, m, at, e, want, f)
	}
	got, e := inner.Put(n, key, kid)
	want, f := m.put(key, kid)
	sameAnswer(t, "Put "+key, m, got, want, e, f)
	if e == api.OK {
		putLeads(t, m, got, key, kid)
	}
	got, e = inner.Del(n, i)
	want, f = m.del(i)
	sameAnswer(t, "Del", m, got, want, e, f)
	got, e = inner.Turn(n, i, kid)
	want, f = m.turn(i, kid)
	sameAnswer(t, "Turn", m, got, want, e, f)
	unchanged(t, n, m.page())
}

// putLeads tells that keys from one on, up to the next separator, lead to its kid, and others where they led.
func putLeads(t *testing.T, m model, got inner.Inner, key string, kid int) {
	t.Helper()
	was := m.page()
	for _, probe := range probes(m, key) {
		want := kidOf(t, was, probe)
		if probe >= key && m.leads(probe) == m.leads(key) {
			want = kid
		}
		if k := kidOf(t, got, probe); k != want {
			t.Fatalf("Put %q, %d in %+v: %q leads to %d; want %d", key, kid, m, probe, k, want)
		}
	}
	if got.High != m.high || got.Next != m.next {
		t.Fatalf("Put %q, %d in %+v: %+v", key, kid, m, got)
	}
}

// P11.2, P11.4: Find, Put, Del and Turn, one behind the other, by chance.
func TestChangesByChance(t *testing.T) {
	c := chance{rand.New(rand.NewSource(3))}
	count := map[api.Errno]int{}
	for range 300 {
		m := c.model()
		n := m.page()
		for range 100 {
			key, kid, i := c.key(), c.kid(), c.Intn(len(m.kids)+2)-1
			asked(t, m, key, i, kid)
			do := func(n inner.Inner) (inner.Inner, api.Errno) { return inner.Put(n, key, kid) }
			want, f := m.put(key, kid)
			switch c.Intn(6) {
			case 0:
				do = func(n inner.Inner) (inner.Inner, api.Errno) { return inner.Del(n, i) }
				want, f = m.del(i)
			case 1:
				do = func(n inner.Inner) (inner.Inner, api.Errno) { return inner.Turn(n, i, kid) }
				want, f = m.turn(i, kid)
			}
			got, e := do(n)
			sameAnswer(t, "a change", m, got, want, e, f)
			count[e]++
			if e == api.OK {
				n = got
				m.kids = map[string]int{"": want.Kids[0]}
				for i, sep := range want.Seps {
					m.kids[sep] = want.Kids[i+1]
				}
			}
		}
	}
	for _, e := range []api.Errno{api.OK, api.ErrArg, api.ErrFull, api.ErrTwice} {
		if count[e] < 200 {
			t.Error(e, count)
		}
	}
}

// halves holds what is split against the model, and tells that each key leads to the same kid.
func halves(t *testing.T, m model, page int) api.Errno {
	t.Helper()
	n := m.page()
	a, b, key, e := inner.Split(n, page)
	one, other, want, f := m.split(page)
	sameAnswer(t, "the first half", m, a, one.page(), e, f)
	sameAnswer(t, "the second half", m, b, other.page(), e, f)
	if key != want {
		t.Fatalf("Split of %+v: %q; want %q", m, key, want)
	}
	unchanged(t, n, m.page())
	if e != api.OK {
		return e
	}
	for _, probe := range probes(m) {
		half := a
		if probe >= key {
			half = b
		}
		if got, want := kidOf(t, half, probe), kidOf(t, n, probe); got != want {
			t.Fatalf("%+v, split: %q leads to %d; want %d", m, probe, got, want)
		}
	}
	return api.OK
}

// P11.3, P11.4: Split, by chance.
func TestSplitByChance(t *testing.T) {
	c := chance{rand.New(rand.NewSource(4))}
	count := map[api.Errno]int{}
	for range 20000 {
		count[halves(t, c.model(), c.Intn(1040)-8)]++
	}
	if count[api.OK] < 5000 || count[api.ErrArg] < 500 {
		t.Error(count)
	}
}

// P11.2 to P11.4: all pages of few separators, with all that is asked of them.
func TestFewKeys(t *testing.T) {
	keys := []string{"a", "b", "ba", "c"}
	count := 0
	for _, high := range []string{"", "a", "b", "b\x00", "c", "d"} {
		for set := range 1 << len(keys) {
			m := model{map[string]int{"": 10}, high, set}
			for i, key := range keys {
				if set>>i&1 == 1 {
					m.kids[key] = 11 + i
				}
			}
			if !mayBe(m.page()) {
				continue
			}
			count++
			for _, key := range append(keys, "", "0", "aa", "bb", "d", "dd") {
				for i := -1; i <= 6; i++ {
					for _, kid := range []int{-1, 0, 12, 20, 1024} {
						asked(t, m, key, i, kid)
					}
				}
			}
			for _, page := range []int{-1, 0, 11, 1023, 1024} {
				halves(t, m, page)
			}
		}
	}
	if count < 40 {
		t.Error(count)
	}
}
