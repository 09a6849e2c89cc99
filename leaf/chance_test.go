package leaf_test

import (
	"maps"
	"math/rand"
	"slices"
	"strings"
	"testing"

	"budwood/api"
	"budwood/leaf"
)

// model is a leaf as the document's words have it, its pairs in a map.
type model struct {
	values map[string]string
	high   string
	next   int
}

func (m model) leaf() leaf.Leaf {
	l := leaf.Leaf{High: m.high, Next: m.next}
	for _, key := range slices.Sorted(maps.Keys(m.values)) {
		l.Pairs = append(l.Pairs, pair(key, m.values[key]))
	}
	return l
}

func (m model) size() int {
	n := 0
	for key, value := range m.values {
		n += 2 + len(key) + len(value)
	}
	return n
}

func (m model) copy() model {
	m.values = maps.Clone(m.values)
	return m
}

func (m model) get(key string) (string, api.Errno) {
	v, is := m.values[key]
	if !is {
		return "", api.ErrNone
	}
	return v, api.OK
}

func (m model) put(key, value string) (leaf.Leaf, api.Errno) {
	if len(key) == 0 || len(key) > 16 || len(value) > 32 || len(m.high) > 0 && strings.Compare(key, m.high) >= 0 {
		return leaf.Leaf{}, api.ErrArg
	}
	m = m.copy()
	m.values[key] = value
	if m.size()+5+16 > 252 {
		return leaf.Leaf{}, api.ErrFull
	}
	return m.leaf(), api.OK
}

func (m model) del(key string) (leaf.Leaf, api.Errno) {
	if _, is := m.values[key]; !is {
		return leaf.Leaf{}, api.ErrNone
	}
	m = m.copy()
	delete(m.values, key)
	return m.leaf(), api.OK
}

func (m model) split(page int) (leaf.Leaf, leaf.Leaf, api.Errno) {
	l := m.leaf()
	last := len(l.Pairs) - 1
	if last < 1 || page < 0 || page > 1023 {
		return leaf.Leaf{}, leaf.Leaf{}, api.ErrArg
	}
	made, n := 0, 0
	for n < last {
		made += 2 + len(l.Pairs[n].Key) + len(l.Pairs[n].Value)
		n++
		if made >= m.size()-made {
			break
		}
	}
	a := leaf.Leaf{Pairs: slices.Clone(l.Pairs[:n]), High: l.Pairs[n].Key, Next: page + 1}
	return a, leaf.Leaf{Pairs: slices.Clone(l.Pairs[n:]), High: m.high, Next: m.next}, api.OK
}

func (m model) join(o model) (leaf.Leaf, api.Errno) {
	if len(m.high) == 0 || len(o.high) > 0 && strings.Compare(o.high, m.high) < 0 {
		return leaf.Leaf{}, api.ErrArg
	}
	both := model{maps.Clone(m.values), o.high, o.next}
	for key, value := range o.values {
		if strings.Compare(key, m.high) < 0 {
			return leaf.Leaf{}, api.ErrArg
		}
		both.values[key] = value
	}
	if both.size()+5+16 > 252 {
		return leaf.Leaf{}, api.ErrFull
	}
	return both.leaf(), api.OK
}

// mayBe is whether a leaf may be, by the document's words.
func mayBe(l leaf.Leaf) bool {
	size := 5 + 16
	for i, p := range l.Pairs {
		size += 1 + len(p.Key) + 1 + len(p.Value)
		if len(p.Key) < 1 || len(p.Key) > 16 || len(p.Value) > 32 {
			return false
		}
		if i > 0 && strings.Compare(l.Pairs[i-1].Key, p.Key) >= 0 {
			return false
		}
		if len(l.High) > 0 && strings.Compare(p.Key, l.High) >= 0 {
			return false
		}
	}
	return size <= 252 && len(l.High) <= 16 && 0 <= l.Next && l.Next <= 1024
}

func textOf(t string) string { return string([]byte{byte(len(t))}) + t }

// bytesOf is a leaf as the document writes it.
func bytesOf(l leaf.Leaf) string {
	s := "L" + string([]byte{byte(len(l.Pairs)), byte(l.Next % 256), byte(l.Next / 256)}) + textOf(l.High)
	for _, p := range l.Pairs {
		s += textOf(p.Key) + textOf(p.Value)
	}
	return s
}

// leafAt is the leaf that may be whose bytes s has at its beginning, if there is one, by taking bytes off the beginning.
func leafAt(s string) (leaf.Leaf, bool) {
	fine, all := true, s
	take := func(n int) string {
		if n > len(s) {
			fine, n = false, len(s)
		}
		t := s[:n]
		s = s[n:]
		return t
	}
	number := func() int {
		t := take(1)
		if t == "" {
			return 0
		}
		return int(t[0])
	}
	if len(all) > 252 || take(1) != "L" {
		return leaf.Leaf{}, false
	}
	count := number()
	l := leaf.Leaf{Next: number()}
	l.Next += number() * 256
	l.High = take(number())
	for range count {
		key := take(number())
		l.Pairs = append(l.Pairs, pair(key, take(number())))
	}
	if !fine || strings.Trim(s, "\x00") != "" || !mayBe(l) {
		return leaf.Leaf{}, false
	}
	return l, true
}

// chance makes keys, values and leaves.
type chance struct{ *rand.Rand }

func (c chance) text(most int) string {
	b := make([]byte, c.Intn(most+1))
	for i := range b {
		b[i] = "\x00\x01ab\x7f\x80\xff"[c.Intn(7)]
	}
	return string(b)
}

// key is one of few, of many, or none at all.
func (c chance) key() string {
	switch c.Intn(4) {
	case 0:
		return c.text(17)
	case 1:
		return c.text(2)
	}
	return string([]byte{byte('a' + c.Intn(8))})
}

func (c chance) model() model {
	m := model{values: map[string]string{}, next: c.Intn(1025)}
	most := []int{0, 0, 3, 32}[c.Intn(4)]
	for range c.Intn(20) {
		if key := c.key(); len(key) >= 1 && len(key) <= 16 {
			m.values[key] = c.text(most)
		}
		for m.size() > 231 {
			delete(m.values, slices.Max(slices.Collect(maps.Keys(m.values))))
		}
	}
	if high := c.key(); c.Intn(2) == 0 && len(high) <= 16 {
		m.high = high
		maps.DeleteFunc(m.values, func(key, _ string) bool { return high != "" && key >= high })
	}
	return m
}

// spoiled is a leaf with one thing changed, that may be one thereafter or not.
func (c chance) spoiled(l leaf.Leaf) leaf.Leaf {
	l.Pairs = slices.Clone(l.Pairs)
	n := len(l.Pairs)
	switch c.Intn(7) {
	case 0:
		l.High = c.text(18)
	case 1:
		l.Next = c.Intn(1100) - 40
	case 2:
		l.Pairs = append(l.Pairs, pair(c.text(17), c.text(33)))
	case 3:
		if n > 0 {
			l.Pairs[c.Intn(n)].Key = c.text(17)
		}
	case 4:
		if n > 0 {
			l.Pairs[c.Intn(n)].Value = c.text(34)
		}
	case 5:
		if n > 0 {
			i, j := c.Intn(n), c.Intn(n)
			l.Pairs[i], l.Pairs[j] = l.Pairs[j], l.Pairs[i]
		}
	case 6:
		for range 3 {
			l.Pairs = append(l.Pairs, pair(string([]byte{0xff, 0xff, 0xff, byte(len(l.Pairs))}), c.text(32)))
		}
	}
	return l
}

// P10.1: Right, Size, Encode and Decode, by chance.
func TestBytesByChance(t *testing.T) {
	c := chance{rand.New(rand.NewSource(1))}
	count := [2]int{}
	for range 40000 {
		l := c.model().leaf()
		if c.Intn(2) == 0 {
			l = c.spoiled(l)
		}
		want, may := "", mayBe(l)
		if may {
			want = bytesOf(l)
			count[0]++
		} else {
			count[1]++
		}
		if got := leaf.Right(l); got != may {
			t.Fatalf("Right(%+v) = %v", l, got)
		}
		if got := leaf.Encode(l); got != want {
			t.Fatalf("Encode(%+v) = %q; want %q", l, got, want)
		}
		if n := leaf.Size(l); n != len(bytesOf(l)) {
			t.Fatalf("Size(%+v) = %d", l, n)
		}
		if !may {
			if l.Next >= 0 { // one below 0 has no bytes of its own
				noLeaf(t, bytesOf(l))
			}
			continue
		}
		if got, e := leaf.Decode(want + strings.Repeat("\x00", c.Intn(253-len(want)))); !leaf.Same(got, l) || e != api.OK {
			t.Fatalf("Decode(%q) = %+v, %d", want, got, e)
		}
	}
	if count[0] < 10000 || count[1] < 5000 {
		t.Error(count)
	}
}

// P10.1: Decode, of bytes one or some of which are others.
func TestDecodeByChance(t *testing.T) {
	c := chance{rand.New(rand.NewSource(2))}
	count := [2]int{}
	for range 60000 {
		b := []byte(bytesOf(c.model().leaf()))
		if c.Intn(2) == 0 {
			b = append(b, make([]byte, c.Intn(254-len(b)))...)
		}
		for range c.Intn(3) {
			switch i := c.Intn(len(b)); c.Intn(4) {
			case 0:
				b[i] = byte(c.Intn(256))
			case 1:
				b[i] += byte(c.Intn(3) - 1)
			case 2:
				b = append(b[:i], append([]byte{byte(c.Intn(4))}, b[i:]...)...)
			case 3:
				if len(b) > 1 {
					b = append(b[:i], b[i+1:]...)
				}
			}
		}
		s := string(b)
		want, is := leafAt(s)
		if !is {
			count[0]++
			noLeaf(t, s)
			continue
		}
		count[1]++
		if got, e := leaf.Decode(s); !leaf.Same(got, want) || e != api.OK {
			t.Fatalf("Decode(%q) = %+v, %d; want %+v", s, got, e, want)
		}
	}
	if count[0] < 10000 || count[1] < 10000 {
		t.Error(count)
	}
}

// P10.1: Decode, of all bytes that are an example's but for one, which is any other.
func TestDecodeEachByte(t *testing.T) {
	for _, s := range []string{
		"L\x02\x01\x03\x01d\x01a\x01A\x02bc\x02BC", "L\x02\x00\x04\x02ba\x01a\x00\x01b\x00\x00\x00",
		"L\x03\x00\x00\x00\x01\x00\x01\x00\x02\x00\x00\x02\x00\x00\x01\x01\x00", "L\x00\x00\x00\x00" + strings.Repeat("\x00", 247),
	} {
		for i := range len(s) {
			for v := range 256 {
				one := s[:i] + string([]byte{byte(v)}) + s[i+1:]
				want, is := leafAt(one)
				if !is {
					noLeaf(t, one)
				} else if got, e := leaf.Decode(one); !leaf.Same(got, want) || e != api.OK {
					t.Errorf("Decode(%q) = %+v, %d; want %+v", one, got, e, want)
				}
			}
		}
	}
}

func sameAnswer(t *testing.T, what string, m model, got, want leaf.Leaf, e, f api.Errno) {
	t.Helper()
	if !leaf.Same(got, want) || e != f || e != api.OK && !bare(got) {
		t.Fatalf("%s of %+v: %+v, %d; want %+v, %d", what, m, got, e, want, f)
	}
	if !mayBe(got) {
		t.Fatalf("%s of %+v: %+v, that may not be", what, m, got)
	}
}

// asked holds all that is told of a leaf, and of it with a key, against its model.
func asked(t *testing.T, m model, key, value string) {
	t.Helper()
	l := m.leaf()
	v, e := leaf.Get(l, key)
	if w, f := m.get(key); v != w || e != f {
		t.Fatalf("Get %q of %+v: %q, %d; want %q, %d", key, m, v, e, w, f)
	}
	got, e := leaf.Put(l, key, value)
	want, f := m.put(key, value)
	sameAnswer(t, "Put "+key+" "+value, m, got, want, e, f)
	if e == api.OK {
		othersStay(t, l, got, key)
		if v, e := leaf.Get(got, key); v != value || e != api.OK {
			t.Fatalf("Put %q of %+v: got %q, %d; want %q", key, m, v, e, value)
		}
	}
	got, e = leaf.Del(l, key)
	want, f = m.del(key)
	sameAnswer(t, "Del "+key, m, got, want, e, f)
	if e == api.OK {
		othersStay(t, l, got, key)
		if v, e := leaf.Get(got, key); v != "" || e != api.ErrNone {
			t.Fatalf("Del %q of %+v: got %q, %d", key, m, v, e)
		}
	}
	if !leaf.Same(l, m.leaf()) {
		t.Fatalf("%+v was changed into %+v", m, l)
	}
}

// othersStay tells that of two leaves all keys but one have the same values, and that High and Next are the same.
func othersStay(t *testing.T, was, is leaf.Leaf, but string) {
	t.Helper()
	a, b := map[string]string{}, map[string]string{}
	for _, p := range was.Pairs {
		a[p.Key] = p.Value
	}
	for _, p := range is.Pairs {
		b[p.Key] = p.Value
	}
	delete(a, but)
	delete(b, but)
	if !maps.Equal(a, b) || was.High != is.High || was.Next != is.Next {
		t.Fatalf("%+v became %+v, by %q", was, is, but)
	}
}

// P10.2, P10.4: Get, Put and Del, one behind the other, by chance.
func TestChangesByChance(t *testing.T) {
	c := chance{rand.New(rand.NewSource(3))}
	count := map[api.Errno]int{}
	for range 400 {
		m := c.model()
		l := m.leaf()
		for range 100 {
			key, value := c.key(), c.text([]int{2, 33}[c.Intn(2)])
			asked(t, m, key, value)
			do := leaf.Del
			want, f := m.del(key)
			if c.Intn(5) > 0 {
				do = func(l leaf.Leaf, key string) (leaf.Leaf, api.Errno) { return leaf.Put(l, key, value) }
				want, f = m.put(key, value)
			}
			got, e := do(l, key)
			sameAnswer(t, "a change", m, got, want, e, f)
			count[e]++
			if e == api.OK {
				l = got
				m.values = map[string]string{}
				for _, p := range want.Pairs {
					m.values[p.Key] = p.Value
				}
			}
		}
	}
	for _, e := range []api.Errno{api.OK, api.ErrArg, api.ErrFull, api.ErrNone} {
		if count[e] < 500 {
			t.Error(e, count)
		}
	}
}

// P10.3, P10.4: what is split, joined, is what it was.
func TestSplitByChance(t *testing.T) {
	c := chance{rand.New(rand.NewSource(4))}
	count := map[api.Errno]int{}
	for range 30000 {
		m, page := c.model(), c.Intn(1040)-8
		splitAndJoined(t, m, page)
		_, _, e := leaf.Split(m.leaf(), page)
		count[e]++
	}
	if count[api.OK] < 5000 || count[api.ErrArg] < 500 {
		t.Error(count)
	}
}

func splitAndJoined(t *testing.T, m model, page int) {
	t.Helper()
	l := m.leaf()
	a, b, e := leaf.Split(l, page)
	one, other, f := m.split(page)
	sameAnswer(t, "the first half", m, a, one, e, f)
	sameAnswer(t, "the second half", m, b, other, e, f)
	if e != api.OK {
		return
	}
	if joined, e := leaf.Join(a, b); !leaf.Same(joined, l) || e != api.OK {
		t.Fatalf("%+v, split and joined, is %+v, %d", m, joined, e)
	}
}

// behind is a leaf with another one's values, whose keys are those behind a's.
func (c chance) behind(a, other model) model {
	b := model{map[string]string{}, "", other.next}
	for _, p := range other.leaf().Pairs {
		key := a.high + p.Key
		key = key[:min(len(key), 16)]
		b.values[key] = p.Value
		if b.size() > 231 {
			delete(b.values, key)
		}
	}
	if c.Intn(3) == 0 {
		b.high = "\xff\xff\xff\xff\xff"
		maps.DeleteFunc(b.values, func(key, _ string) bool { return key >= b.high })
	}
	return b
}

// P10.3: Join, of leaves that follow each other and of others, by chance.
func TestJoinByChance(t *testing.T) {
	c := chance{rand.New(rand.NewSource(5))}
	count := map[api.Errno]int{}
	for range 60000 {
		a, b := c.model(), c.model()
		if c.Intn(2) == 0 { // else b's keys are seldom those behind a's
			b = c.behind(a, b)
		}
		got, e := leaf.Join(a.leaf(), b.leaf())
		want, f := a.join(b)
		sameAnswer(t, "Join", a, got, want, e, f)
		count[e]++
	}
	for _, e := range []api.Errno{api.OK, api.ErrArg, api.ErrFull} {
		if count[e] < 300 {
			t.Error(e, count)
		}
	}
}

// P10.2, P10.3: all leaves of few keys, with all that is asked of them, and all two of them joined.
func TestFewKeys(t *testing.T) {
	keys := []string{"a", "b", "ba", "c"}
	var all []model
	for _, high := range []string{"", "a", "b", "b\x00", "c", "d"} {
		for set := range 1 << len(keys) {
			m := model{map[string]string{}, high, set % 3}
			for i, key := range keys {
				if set>>i&1 == 1 {
					m.values[key] = strings.Repeat("v", set%(3+i))
				}
			}
			if mayBe(m.leaf()) {
				all = append(all, m)
			}
		}
	}
	for i, m := range all {
		for _, key := range append(keys, "", "0", "aa", "bb", "d", "dd") {
			for _, value := range []string{"", "v", "vv", "w", strings.Repeat("w", 33)} {
				asked(t, m, key, value)
			}
		}
		for _, page := range []int{-1, 0, i, 1023, 1024} {
			splitAndJoined(t, m, page)
		}
		for _, o := range all {
			got, e := leaf.Join(m.leaf(), o.leaf())
			want, f := m.join(o)
			sameAnswer(t, "Join", m, got, want, e, f)
		}
	}
	if len(all) < 40 {
		t.Error(len(all))
	}
}

// P10.4: both halves of a leaf that was too full have room for a pair, whatever its pairs' sizes are.
func TestHalvesHaveRoom(t *testing.T) {
	count := 0
	var sizes []int
	var fill func(made int)
	fill = func(made int) {
		if made+50 > 231 { // too full for some pair
			count++
			halvesHaveRoom(t, sizes)
		}
		for _, n := range []int{50, 49, 33, 20} {
			if made+n <= 231 {
				sizes = append(sizes, n)
				fill(made + n)
				sizes = sizes[:len(sizes)-1]
			}
		}
	}
	fill(0)
	if count < 1000 {
		t.Error(count)
	}
}

func halvesHaveRoom(t *testing.T, sizes []int) {
	t.Helper()
	a, b, e := leaf.Split(sized(sizes...), 1)
	if e != api.OK {
		t.Fatalf("%v: %d", sizes, e)
	}
	value := strings.Repeat("w", 32)
	for _, l := range []leaf.Leaf{a, b} {
		if got, e := leaf.Put(l, long("0", 16), value); !leaf.Right(got) || e != api.OK { // the largest pair that may be
			t.Fatalf("%v: no room in %+v: %d", sizes, l, e)
		}
	}
}
