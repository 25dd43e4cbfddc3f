package scan_test

import (
	"bytes"
	"fmt"
	"math"
	"slices"
	"strings"
	"testing"

	"cuneiform/scan"
)

// model: the segments, as the chapter's words say it: one byte behind the other, and all of them kept.
type model struct {
	fed  uint64
	at   uint64 // where what is open began
	open []byte
}

// feed: the segments that bytes end.
func (m *model) feed(b []byte) []scan.Segment {
	var out []scan.Segment
	for _, c := range b {
		m.fed++
		switch {
		case c != 0:
			if len(m.open) == 0 {
				m.at = m.fed - 1
			}
			m.open = append(m.open, c)
		case len(m.open) > 0:
			out = append(out, segmentOf(m.open, m.at))
			m.open = nil
		}
	}
	return out
}

// held: how many of the bytes that are open a scanner holds.
func (m *model) held() int {
	if len(m.open) > 255 {
		return 0
	}
	return len(m.open)
}

// segmentOf: the one of a row of bytes that began there.
func segmentOf(row []byte, at uint64) scan.Segment {
	if len(row) > 255 {
		return long(len(row), at)
	}
	return scan.Segment{Bytes: slices.Clone(row), Len: len(row), At: at}
}

// long: a long one of so many bytes.
func long(n int, at uint64) scan.Segment { return scan.Segment{Long: true, Len: n, At: at} }

// row: n bytes other than 0.
func row(n int) []byte {
	out := make([]byte, n)
	for i := range out {
		out[i] = byte(1 + (i*7+n)%255)
	}
	return out
}

// closed: n bytes other than 0, and a 0.
func closed(n int) []byte { return append(row(n), 0) }

// rows: calls f with all rows of up to most bytes of an alphabet, behind a beginning.
func rows(begin, alphabet []byte, most int, f func(b []byte)) {
	f(slices.Clone(begin))
	if most == 0 {
		return
	}
	for _, c := range alphabet {
		rows(append(slices.Clone(begin), c), alphabet, most-1, f)
	}
}

// streams: some whose segments are about the most that is held, and far from it.
func streams() [][]byte {
	out := [][]byte{
		nil, {0}, {5}, {5, 0}, {0, 5}, {0, 5, 0}, {0, 0, 5, 6, 0, 0, 7, 0}, make([]byte, 300),
		slices.Concat(row(5000), []byte{0}, row(3)),
		slices.Concat(closed(255), closed(256), closed(254), closed(257), closed(1), row(255)),
		slices.Concat([]byte{0, 0}, closed(256), closed(256), []byte{0}, closed(255), closed(255), row(256)),
		slices.Concat(closed(510), closed(511), closed(512), closed(513), row(700)),
	}
	for _, n := range []int{1, 2, 254, 255, 256, 257, 600} {
		out = append(out, row(n), closed(n), slices.Concat([]byte{0}, closed(n), []byte{0}, closed(2), row(n)))
	}
	return out
}

// same: whether segments are, field by field, beside Same itself.
func same(a, b []scan.Segment) bool {
	return slices.EqualFunc(a, b, func(x, y scan.Segment) bool {
		return string(x.Bytes) == string(y.Bytes) && x.Long == y.Long && x.Len == y.Len && x.At == y.At
	})
}

// are: whether told segments are those.
func are(t *testing.T, what string, got, want []scan.Segment) {
	t.Helper()
	if !same(got, want) {
		t.Errorf("%s: %s, not %s", what, shown(got), shown(want))
	}
}

// shown: segments as a fault tells them.
func shown(l []scan.Segment) string {
	var out strings.Builder
	for _, x := range l {
		fmt.Fprintf(&out, "[%v.. (%d), %t, %d at %d]", x.Bytes[:min(len(x.Bytes), 12)], len(x.Bytes), x.Long, x.Len, x.At)
	}
	return out.String()
}

// has: whether a scanner tells of itself what it has to.
func has(t *testing.T, what string, s *scan.Scanner, held int, fed uint64, open bool) {
	t.Helper()
	if s.Held() != held || s.Fed() != fed || s.Open() != open {
		t.Errorf("%s: holds %d, was fed %d, open %t, not %d, %d, %t", what, s.Held(), s.Fed(), s.Open(), held, fed, open)
	}
}

// is: whether a scanner is as the model, and tells the same of what comes, too.
func is(t *testing.T, what string, s *scan.Scanner, m model) {
	t.Helper()
	has(t, what, s, m.held(), m.fed, len(m.open) > 0)
	m.open = slices.Clone(m.open)
	next := slices.Concat([]byte{3}, []byte{0}, closed(254), row(7))
	c := s.Copy()
	are(t, what+", then more", c.Feed(next), m.feed(next))
	has(t, what+", then more", c, m.held(), m.fed, len(m.open) > 0)
}

// fed: a scanner and the model, which were fed these.
func fed(parts ...[]byte) (*scan.Scanner, model) {
	s, m := scan.New(), model{}
	for _, b := range parts {
		s.Feed(b)
		m.feed(b)
	}
	return s, m
}

// P9.1: a new one was fed nothing, and two are two.
func TestNew(t *testing.T) {
	s, other := scan.New(), scan.New()
	if s == nil || s == other {
		t.Fatal("New: nil, or the same one")
	}
	is(t, "new", s, model{})
	s.Feed([]byte{5, 0, 6})
	is(t, "another", other, model{})
}

// P9.1: parts whose segments are known.
func TestKnown(t *testing.T) {
	type step struct {
		part []byte
		want []scan.Segment
		held int
		open bool
	}
	one := func(at uint64, b ...byte) scan.Segment { return segmentOf(b, at) }
	for name, steps := range map[string][]step{
		"the chapter's": {
			{[]byte{5, 6}, nil, 2, true},
			{[]byte{0, 7, 0}, []scan.Segment{one(0, 5, 6), one(3, 7)}, 0, false},
		},
		"within one part": {
			{[]byte{5, 0, 0, 6, 7, 0, 8}, []scan.Segment{one(0, 5), one(3, 6, 7)}, 1, true},
		},
		"a 0 alone behind each": {
			{[]byte{1}, nil, 1, true}, {[]byte{0}, []scan.Segment{one(0, 1)}, 0, false},
			{[]byte{255}, nil, 1, true}, {[]byte{0}, []scan.Segment{one(2, 255)}, 0, false},
		},
		"no 0": {
			{[]byte{1}, nil, 1, true}, {[]byte{2, 3}, nil, 3, true}, {row(9), nil, 12, true},
			{[]byte{0}, []scan.Segment{one(0, slices.Concat([]byte{1, 2, 3}, row(9))...)}, 0, false},
		},
		"noughts alone, and no bytes": {
			{nil, nil, 0, false}, {[]byte{}, nil, 0, false}, {[]byte{0}, nil, 0, false}, {make([]byte, 20), nil, 0, false},
			{[]byte{4}, nil, 1, true}, {nil, nil, 1, true}, {[]byte{}, nil, 1, true},
			{make([]byte, 20), []scan.Segment{one(21, 4)}, 0, false}, {make([]byte, 20), nil, 0, false},
			{[]byte{0, 4, 0}, []scan.Segment{one(63, 4)}, 0, false},
		},
	} {
		s := scan.New()
		at := uint64(0)
		for _, x := range steps {
			at += uint64(len(x.part))
			are(t, name, s.Feed(x.part), x.want)
			has(t, name, s, x.held, at, x.open)
		}
	}
}

// P9.1: just as many bytes as are held, and one more, within one part.
func TestLongInOnePart(t *testing.T) {
	for _, n := range []int{1, 2, 253, 254, 255, 256, 257, 258, 510, 511, 512, 65536, 1 << 20} {
		for ahead := range 3 {
			b := slices.Concat(make([]byte, ahead), closed(n))
			want := []scan.Segment{segmentOf(row(n), uint64(ahead))}
			if got := want[0].Long; got != (n > 255) {
				t.Fatalf("%d bytes: long %t", n, got)
			}
			s := scan.New()
			are(t, "one part", s.Feed(b), want)
			has(t, "behind it", s, 0, uint64(len(b)), false)
			twice := append(want, segmentOf(row(n), uint64(len(b)+ahead)))
			are(t, "twice, in one part", scan.New().Feed(slices.Concat(b, b)), twice)
			are(t, "a short one behind it", s.Feed([]byte{7, 0}), []scan.Segment{segmentOf([]byte{7}, uint64(len(b)))})
		}
	}
}

// P9.1, P9.2: likewise over several parts, of which the last may be a 0 alone.
func TestLongInParts(t *testing.T) {
	for _, n := range []int{254, 255, 256, 257, 600} {
		for _, size := range []int{1, 2, 3, 100, 127, 128, 254, 255, 256, 257, 300} {
			s := scan.New()
			s.Feed([]byte{0, 9, 0})
			come := 0
			for part := range slices.Chunk(row(n), size) {
				if l := s.Feed(part); len(l) > 0 {
					t.Errorf("%d bytes by %d: %v", n, size, l)
				}
				come += len(part)
				held := come
				if come > 255 {
					held = 0
				}
				has(t, "within", s, held, uint64(3+come), true)
			}
			are(t, "a 0 alone", s.Feed([]byte{0}), []scan.Segment{segmentOf(row(n), 3)})
			has(t, "behind it", s, 0, uint64(4+n), false)
			are(t, "behind it", s.Feed(closed(255)), []scan.Segment{segmentOf(row(255), uint64(4+n))})
		}
	}
}

// P9.1: where a segment is, behind many parts.
func TestAtBehindManyParts(t *testing.T) {
	s, m := fed()
	for i := range 3000 {
		b := [][]byte{row(i % 11), {0}, closed(i % 300), make([]byte, i%4), nil}[i%5]
		are(t, "a part", s.Feed(b), m.feed(b))
		has(t, "a part", s, m.held(), m.fed, len(m.open) > 0)
	}
	s.Feed([]byte{0})
	at := s.Fed()
	if at < 50000 {
		t.Fatalf("just %d bytes", at)
	}
	are(t, "behind many", s.Feed([]byte{0, 5, 6, 0}), []scan.Segment{segmentOf([]byte{5, 6}, at+1)})
}

// P9.1: a long one of millions of bytes, over many parts, and where what comes behind it is.
func TestAtFarOn(t *testing.T) {
	s := scan.New()
	part := row(1 << 20)
	for range 40 {
		if l := s.Feed(part); len(l) > 0 || s.Held() != 0 {
			t.Fatal(l, s.Held())
		}
	}
	are(t, "a long one", s.Feed([]byte{0, 5, 0}), []scan.Segment{long(40<<20, 0), segmentOf([]byte{5}, 40<<20+1)})
}

// P9.1, P9.3: all short rows, cut everywhere, against the words.
func TestAgainstTheWords(t *testing.T) {
	rows(nil, []byte{0, 1, 255}, 7, func(b []byte) {
		var whole model
		want := whole.feed(b)
		for cuts := range 1 << max(len(b)-1, 0) { // a bit for each place
			s, m := scan.New(), model{}
			var got []scan.Segment
			from := 0
			for to := 1; to <= len(b); to++ {
				if to < len(b) && cuts>>(to-1)&1 == 0 {
					continue
				}
				l := s.Feed(b[from:to])
				are(t, "a part", l, m.feed(b[from:to]))
				has(t, "a part", s, m.held(), m.fed, len(m.open) > 0)
				got = append(got, l...)
				from = to
			}
			are(t, "in parts", got, want)
			has(t, "in parts", s, whole.held(), whole.fed, len(whole.open) > 0)
		}
	})
}

// P9.3: a stream that is cut at each of its places gives what the whole one gives, and is then the same.
func TestCutAtEachPlace(t *testing.T) {
	for _, b := range streams() {
		var m model
		want := m.feed(b)
		whole := scan.New()
		are(t, "the whole", whole.Feed(b), want)
		is(t, "the whole", whole, m)
		for at := range len(b) + 1 {
			s := scan.New()
			are(t, "cut in two", append(s.Feed(b[:at]), s.Feed(b[at:])...), want)
			has(t, "cut in two", s, m.held(), m.fed, len(m.open) > 0)
		}
		for _, size := range []int{1, 2, 7, 254, 255, 256, 257} {
			s := scan.New()
			var got []scan.Segment
			for part := range slices.Chunk(b, size) {
				got = append(got, s.Feed(part)...)
				got = append(got, s.Feed(nil)...)
			}
			are(t, "in even parts", got, want)
			is(t, "in even parts", s, m)
		}
	}
}

// P9.2, P9.3: what is held is never more than 255 bytes, and none of a longer one.
func TestHeld(t *testing.T) {
	for _, b := range streams() {
		s, m := fed()
		for i, c := range b {
			s.Feed([]byte{c})
			m.feed([]byte{c})
			has(t, "byte by byte", s, m.held(), uint64(i+1), len(m.open) > 0)
			if s.Held() > 255 || s.Held() < 0 {
				t.Fatalf("holds %d", s.Held())
			}
		}
	}
	for n := range 700 { // at once, and behind what is held
		for _, ahead := range []int{0, 1, 254, 255, 256} {
			s := scan.New()
			s.Feed(row(ahead))
			s.Feed(row(n))
			held := ahead + n
			if held > 255 {
				held = 0
			}
			has(t, "two rows", s, held, uint64(ahead+n), ahead+n > 0)
		}
	}
}

// left: what Each gives of a part till a loop ends at so many.
func left(s *scan.Scanner, b []byte, most int) []scan.Segment {
	var out []scan.Segment
	for x := range s.Each(b) {
		out = append(out, x)
		if len(out) == most {
			break
		}
	}
	return out
}

// upTo: a part up to the 0 of so many segments of it, behind what is open; all of it, if there aren't as many.
func upTo(m model, b []byte, most int) []byte {
	m.open = slices.Clone(m.open)
	count := 0
	for i, c := range b {
		count += len(m.feed([]byte{c}))
		if count == most {
			return b[:i+1]
		}
	}
	return b
}

// P9.1: Each gives what Feed tells, and is never nil; a loop may end at each of the segments, and a further part goes on behind it.
func TestEachIsLeft(t *testing.T) {
	parts := append(streams(), []byte{1, 0, 2, 0, 3, 0}, []byte{0, 0, 1, 0, 0, 2, 3, 0, 0, 4}, slices.Concat([]byte{8, 0}, closed(256), closed(255), []byte{9}))
	for _, ahead := range [][]byte{nil, {0}, {7, 7}, {7, 0, 7}, row(254), row(255), row(256), closed(300)} {
		for _, b := range parts {
			s, m := fed(ahead)
			for most := 1; most <= 7; most++ {
				c, n := s.Copy(), m
				n.open = slices.Clone(m.open)
				b := slices.Clone(b)
				up := upTo(m, b, most)
				are(t, "Each, left", left(c, b, most), n.feed(up))
				is(t, "Each, left", c, n)
				rest := b[len(up):]
				are(t, "Each, left, then fed the rest", c.Feed(rest), n.feed(rest))
				is(t, "Each, left, then fed the rest", c, n)
			}
			c := s.Copy()
			are(t, "Each, to its end", left(c, b, -1), m.feed(b))
			is(t, "Each, to its end", c, m)
		}
	}
	if s := scan.New(); s.Each(nil) == nil || s.Each([]byte{1}) == nil || s.Each([]byte{1, 0}) == nil {
		t.Error("Each is nil")
	}
}

// P9.1: when one is given, just what is up to its 0 was fed.
func TestFedWithinEach(t *testing.T) {
	b := slices.Concat([]byte{0, 4, 0, 0}, closed(256), closed(255), []byte{0, 5, 0, 6})
	s, m := fed([]byte{7, 0, 8})
	want := m
	want.open = slices.Clone(m.open)
	all := want.feed(b)
	count := 0
	for x := range s.Each(b) {
		up := m
		up.open = slices.Clone(m.open)
		up.feed(upTo(m, b, count+1))
		are(t, "given", []scan.Segment{x}, all[count:count+1])
		has(t, "when it is given", s, 0, up.fed, false)
		is(t, "when it is given", s.Copy(), up)
		count++
	}
	if count != len(all) {
		t.Errorf("%d segments, not %d", count, len(all))
	}
	is(t, "at the end", s, want)
}

// P9.1: nothing is fed ahead of a ranging, each ranging feeds the part anew, and a loop that has ended is asked nothing more.
func TestEachIsRangedOver(t *testing.T) {
	s, m := fed([]byte{9})
	b := []byte{1, 0, 2, 0, 3}
	seq := s.Each(b)
	is(t, "not yet ranged over", s, m)
	for range 3 {
		var got []scan.Segment
		for x := range seq {
			got = append(got, x)
		}
		are(t, "anew", got, m.feed(b))
		is(t, "anew", s, m)
	}
	asked := 0
	seq(func(scan.Segment) bool {
		asked++
		return false
	})
	if asked != 1 {
		t.Errorf("asked %d times", asked)
	}
	m.feed([]byte{1, 0})
	is(t, "left", s, m)
}

// P9.1: the calls within a loop are taken where they come.
func TestCallsWithinEach(t *testing.T) {
	s := scan.New()
	var got []scan.Segment
	for x := range s.Each([]byte{1, 0, 2, 0, 3, 0, 4}) {
		got = append(got, x)
		switch x.Bytes[0] {
		case 1: // stands ahead of the 2
			got = append(got, s.Feed([]byte{8, 0, 9})...)
		case 3:
			s.Feed([]byte{7})
			s.Reset()
		}
	}
	want := []scan.Segment{segmentOf([]byte{1}, 0), segmentOf([]byte{8}, 2), segmentOf([]byte{9, 2}, 4), segmentOf([]byte{3}, 7)}
	are(t, "within", got, want)
	has(t, "within", s, 1, 11, true)
	are(t, "behind it", s.Feed([]byte{0}), []scan.Segment{segmentOf([]byte{4}, 10)})
}

// P9.2: Reset forgets what is open, as a 0 would end it that isn't counted.
func TestReset(t *testing.T) {
	for name, x := range map[string]struct {
		b    []byte
		held int
	}{
		"nothing fed": {nil, 0}, "nothing open": {[]byte{5, 0}, 0}, "noughts": {make([]byte, 9), 0}, "a byte": {[]byte{5}, 1}, "behind a 0": {[]byte{5, 0, 6, 7}, 2},
		"just as many": {row(255), 255}, "a long one": {row(256), 0}, "a longer one": {slices.Concat([]byte{5, 0}, row(5000)), 0},
	} {
		for times := range 3 {
			s, m := fed(x.b)
			has(t, name, s, x.held, uint64(len(x.b)), len(m.open) > 0)
			for range times + 1 {
				s.Reset()
				m.open = nil
				has(t, name, s, 0, uint64(len(x.b)), false)
			}
			at := uint64(len(x.b))
			are(t, name+", a 0 behind it", s.Copy().Feed([]byte{0}), nil)
			are(t, name+", more behind it", s.Copy().Feed([]byte{3, 4, 0}), []scan.Segment{segmentOf([]byte{3, 4}, at)})
			are(t, name+", 255 behind it", s.Copy().Feed(closed(255)), []scan.Segment{segmentOf(row(255), at)})
			are(t, name+", 256 behind it", s.Copy().Feed(closed(256)), []scan.Segment{long(256, at)})
			is(t, name, s, m)
		}
	}
}

// P9.2: a copy is the same, and what is fed to one, the other isn't.
func TestCopy(t *testing.T) {
	for _, b := range append(streams(), row(3), []byte{5, 0, 6}) {
		s, m := fed(b)
		a, c := s.Copy(), s.Copy()
		if a == s || a == c {
			t.Fatal("a copy is the one itself")
		}
		is(t, "a copy", c, m)
		was := model{m.fed, m.at, slices.Clone(m.open)}
		x, y := model{m.fed, m.at, slices.Clone(m.open)}, model{m.fed, m.at, slices.Clone(m.open)}
		for i := range 300 { // byte by byte, so that one would come into the other's room
			are(t, "one", s.Feed([]byte{byte(1 + i%7)}), x.feed([]byte{byte(1 + i%7)}))
			are(t, "the other", c.Feed([]byte{byte(200 - i%9)}), y.feed([]byte{byte(200 - i%9)}))
			if i%100 == 0 {
				is(t, "one", s, x)
				is(t, "the other", c, y)
			}
		}
		are(t, "one, ended", s.Feed([]byte{0}), x.feed([]byte{0}))
		are(t, "the other, ended", c.Feed([]byte{0}), y.feed([]byte{0}))
		is(t, "a third", a, was)
		s.Reset()
		c.Reset()
		is(t, "a third, of those that were reset", a, was)
		a.Reset()
		is(t, "one", s, model{fed: x.fed})
	}
}

// P9.2: a copy that is made within a loop goes on from there.
func TestCopyWithinEach(t *testing.T) {
	s := scan.New()
	var c *scan.Scanner
	for x := range s.Each([]byte{1, 0, 2, 0, 3}) {
		if x.At == 0 {
			c = s.Copy()
		}
	}
	has(t, "the copy", c, 0, 2, false)
	are(t, "the copy", c.Feed([]byte{9, 0}), []scan.Segment{segmentOf([]byte{9}, 2)})
	are(t, "the one", s.Feed([]byte{0}), []scan.Segment{segmentOf([]byte{3}, 4)})
}

// P9.2: whether segments are the same.
func TestSame(t *testing.T) {
	all := []scan.Segment{
		{}, {Bytes: []byte{5}}, {Bytes: []byte{6}}, {Bytes: []byte{5, 0}}, {Bytes: []byte{5, 6}}, {Bytes: []byte{0}}, {Bytes: row(255)}, {Bytes: row(256)}, {Long: true}, {Len: 1}, {Len: 2}, {Len: -1}, {Len: math.MaxInt}, {At: 1}, {At: 2}, {At: math.MaxUint64}, {At: 1 << 32},
		{Bytes: []byte{5}, Len: 1, At: 9}, {Bytes: []byte{6}, Len: 1, At: 9}, {Bytes: []byte{5}, Len: 2, At: 9}, {Bytes: []byte{5}, Len: 1, At: 8}, {Bytes: []byte{5}, Len: 1, At: 9, Long: true}, {Long: true, Len: 1, At: 9},
	}
	for i, x := range all {
		for k, y := range all {
			y.Bytes = slices.Clone(y.Bytes)
			for _, l := range [][2][]scan.Segment{{{x}, {y}}, {{all[1], x}, {all[1], y}}, {{x, all[1]}, {y, all[1]}}} {
				if scan.Same(l[0], l[1]) != (i == k) {
					t.Errorf("Same of %v and %v: %t", l[0], l[1], i != k)
				}
			}
		}
		for _, l := range [][2][]scan.Segment{{nil, {x}}, {{}, {x}}, {{x}, {x, x}}, {{x}, {x, {}}}} {
			if scan.Same(l[0], l[1]) || scan.Same(l[1], l[0]) {
				t.Errorf("%v and %v are the same", l[0], l[1])
			}
		}
	}
	x, y := scan.Segment{Bytes: []byte{}}, scan.Segment{}
	if !scan.Same(nil, nil) || !scan.Same(nil, []scan.Segment{}) || !scan.Same([]scan.Segment{}, nil) || !scan.Same([]scan.Segment{x}, []scan.Segment{y}) || !scan.Same([]scan.Segment{y}, []scan.Segment{x}) {
		t.Error("nil and empty aren't the same")
	}
	if scan.Same(all[1:3], []scan.Segment{all[2], all[1]}) {
		t.Error("segments in another order are the same")
	}
	if !scan.Same(all, slices.Clone(all)) {
		t.Error("many aren't the same")
	}
}

// P9.3: a nil scanner, in each call.
func TestNil(t *testing.T) {
	var s *scan.Scanner
	for _, b := range append(streams(), []byte{1, 0, 2, 0}) {
		if l := s.Feed(b); len(l) > 0 {
			t.Errorf("Feed: %v", l)
		}
		seq := s.Each(b)
		if seq == nil {
			t.Fatal("Each is nil")
		}
		for x := range seq {
			t.Errorf("Each gives %v", x)
		}
		s.Reset()
		has(t, "nil", s, 0, 0, false)
		if s.Copy() != nil {
			t.Error("a copy of nil")
		}
	}
}

// The rules on memory: a part is neither kept nor changed, its spare room neither.
func TestHandedInIsLeft(t *testing.T) {
	s := scan.New()
	part := []byte{7, 0, 1, 2, 0, 3, 4}
	l := s.Feed(part)
	clear(part)
	are(t, "of a part that was changed behind Feed", l, []scan.Segment{segmentOf([]byte{7}, 0), segmentOf([]byte{1, 2}, 2)})
	are(t, "what was open in it", s.Feed([]byte{0}), []scan.Segment{segmentOf([]byte{3, 4}, 5)})

	room := []byte{5, 0, 6, 50, 51, 52, 53}
	was := slices.Clone(room)
	s.Feed(room[:3])
	s.Feed([]byte{1, 2, 3, 0}) // behind the 6, which is no more in its room
	for x := range s.Each(room[:3]) {
		clear(x.Bytes)
		_ = append(x.Bytes, 9, 9, 9)
	}
	s.Feed([]byte{1, 2, 3, 0})
	for _, x := range s.Feed(room[:2]) {
		clear(x.Bytes)
		_ = append(x.Bytes, 9, 9, 9)
	}
	s.Copy().Feed(room[2:4])
	if !bytes.Equal(room, was) {
		t.Errorf("changed to %v", room)
	}
}

// The rules on memory: what Each was handed may be changed behind the call, and within a loop.
func TestEachKeepsItsOwn(t *testing.T) {
	b := []byte{1, 0, 2, 0, 3}
	s, m := fed()
	seq := s.Each(b)
	b[0] = 77
	for range 2 {
		var got []scan.Segment
		for x := range seq {
			got = append(got, segmentOf(x.Bytes, x.At))
			clear(x.Bytes[:cap(x.Bytes)])
			_ = append(x.Bytes, 9, 9, 9)
			clear(b)
		}
		are(t, "of a part that was changed", got, m.feed([]byte{1, 0, 2, 0, 3}))
		is(t, "of a part that was changed", s, m)
	}
}

// The rules on memory: told segments are new, and share nothing with one another nor with the scanner.
func TestAnswersAreNew(t *testing.T) {
	spoil := func(x scan.Segment) {
		for i := range x.Bytes[:cap(x.Bytes)] {
			x.Bytes[:cap(x.Bytes)][i] = 99
		}
		_ = append(x.Bytes, 99, 99, 99)
	}
	s := scan.New()
	s.Feed([]byte{1, 2})
	c := s.Copy()
	l := s.Feed([]byte{3, 0, 4, 5, 0, 6, 0, 7})
	other := s.Copy()
	want := []scan.Segment{segmentOf([]byte{1, 2, 3}, 0), segmentOf([]byte{4, 5}, 4), segmentOf([]byte{6}, 7)}
	for i := range l {
		are(t, "told", l[i:], want[i:])
		spoil(l[i])
	}
	are(t, "of the scanner", s.Feed([]byte{8, 0}), []scan.Segment{segmentOf([]byte{7, 8}, 9)})
	are(t, "of its copy", other.Feed([]byte{9, 0}), []scan.Segment{segmentOf([]byte{7, 9}, 9)})
	are(t, "of a copy that was made ahead", c.Feed([]byte{9, 0}), []scan.Segment{segmentOf([]byte{1, 2, 9}, 0)})
	a, b := s.Feed(closed(255)), s.Feed(closed(255))
	spoil(a[0])
	are(t, "later ones", b, []scan.Segment{segmentOf(row(255), 268)})
}

// P2: the same calls have the same answers, on what came ahead in other scanners nothing hangs.
func TestScannersAreAlike(t *testing.T) {
	for range 3 {
		s, other := scan.New(), scan.New()
		for _, b := range streams() {
			other.Feed(row(40))
			if x, y := s.Copy().Feed(b), left(s.Copy(), b, -1); !scan.Same(x, y) {
				t.Errorf("Feed %s, Each %s", shown(x), shown(y))
			}
			m := model{fed: s.Fed()}
			are(t, "a stream", s.Feed(b), m.feed(b))
			s.Reset()
		}
	}
}
