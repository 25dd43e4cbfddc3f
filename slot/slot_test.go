package slot_test

import (
	"bytes"
	"math"
	"slices"
	"testing"

	"cuneiform/api"
	"cuneiform/cut"
	"cuneiform/frame"
	"cuneiform/head"
	"cuneiform/slot"
)

// model: a slot as the chapter's words say it: a head, and a payload, or none, at each place.
type model struct {
	h      head.Head
	places [][]byte
}

func modelOf(h head.Head) *model {
	return &model{head.Head{Version: h.Version, Kind: h.Kind, Seq: h.Seq, Index: 0, Count: h.Count}, make([][]byte, h.Count)}
}

// put: what P13.1 has to tell of a frame; it is put where that is OK.
func (m *model) put(f frame.Frame) api.Errno {
	a, b := m.h, f.Head
	if a.Version != b.Version || a.Kind != b.Kind || a.Seq != b.Seq || a.Count != b.Count {
		return api.ErrMeet
	}
	if b.Index < 0 || b.Index > len(m.places)-1 {
		return api.ErrForm
	}
	if len(f.Payload) == 0 {
		return api.ErrShort
	}
	if m.places[b.Index] != nil {
		return api.ErrTwice
	}
	if len(slices.Concat(m.places...))+len(f.Payload) > 192 {
		return api.ErrMany
	}
	m.places[b.Index] = append([]byte{}, f.Payload...)
	return api.OK
}

// missing: the places that are empty.
func (m *model) missing() []int {
	var out []int
	for i, p := range m.places {
		if p == nil {
			out = append(out, i)
		}
	}
	return out
}

func (m *model) copied() *model {
	c := modelOf(m.h)
	for i, p := range m.places {
		c.places[i] = slices.Clone(p)
	}
	return c
}

// given: what a ranging gives, left at most numbers; all of it at 0.
func given(seq func(func(int) bool), most int) []int {
	var out []int
	for n := range seq {
		out = append(out, n)
		if len(out) == most {
			break
		}
	}
	return out
}

// is: whether each call tells of a slot what the words say of it.
func is(t *testing.T, what string, s *slot.Slot, m *model) {
	t.Helper()
	whole, missing := slices.Concat(m.places...), m.missing()
	full := len(missing) == 0
	if got := s.Head(); got != m.h {
		t.Fatalf("%s: head %v, not %v", what, got, m.h)
	}
	if got := s.Have(); got != len(m.places)-len(missing) {
		t.Fatalf("%s: has %d, not %d", what, got, len(m.places)-len(missing))
	}
	if got := s.Size(); got != len(whole) {
		t.Fatalf("%s: size %d, not %d", what, got, len(whole))
	}
	if got := s.Full(); got != full {
		t.Fatalf("%s: full: %t", what, got)
	}
	if got := given(s.Missing(), 0); !slices.Equal(got, missing) {
		t.Fatalf("%s: missing %v, not %v", what, got, missing)
	}
	b, ok := s.Bytes()
	switch {
	case ok != full:
		t.Fatalf("%s: bytes: %t", what, ok)
	case full && !bytes.Equal(b, whole):
		t.Fatalf("%s: bytes %v, not %v", what, b, whole)
	case !full && len(b) > 0:
		t.Fatalf("%s: bytes %v of a slot that isn't full", what, b)
	}
}

// of: a slot of a head, and its model.
func of(t *testing.T, h head.Head) (*slot.Slot, *model) {
	t.Helper()
	s, e := slot.New(h)
	if e != api.OK || s == nil {
		t.Fatalf("New(%v): %v, %d", h, s, e)
	}
	return s, modelOf(h)
}

// answers: whether Put tells just this, and each call what it has to behind it.
func answers(t *testing.T, s *slot.Slot, m *model, f frame.Frame, want api.Errno) {
	t.Helper()
	if e := m.put(f); e != want {
		t.Fatalf("%v: by the words %d, not %d", f, e, want)
	}
	puts(t, s, m, f, want)
	is(t, "behind "+frame.Line(f), s, m)
}

// puts: whether Put tells this.
func puts(t *testing.T, s *slot.Slot, m *model, f frame.Frame, want api.Errno) {
	t.Helper()
	if e := s.Put(f); e != want {
		t.Fatalf("Put(%v), places %v: %d, not %d", f, m.places, e, want)
	}
}

// put: whether Put tells what the words do, and each call what it has to behind it.
func put(t *testing.T, s *slot.Slot, m *model, f frame.Frame) {
	t.Helper()
	puts(t, s, m, f, m.put(f))
	is(t, "behind "+frame.Line(f), s, m)
}

// row: n bytes that are told apart from those of another length, or begun otherwise.
func row(n, begin int) []byte {
	out := make([]byte, n)
	for i := range out {
		out[i] = byte(begin + i*7 + n)
	}
	return out
}

// at: a mate of a head, with this index.
func at(h head.Head, index int, payload ...byte) frame.Frame {
	h.Index = index
	return frame.Frame{Head: h, Payload: payload}
}

// counts: some that a head may have, the bounds among them.
func counts() []int { return []int{1, 2, 3, 4, 7, 16, 64, 127, 128, 191, 192, 193, 254, 255} }

// heads: some that may be, of a count, with the index 0, the last one and one between.
func heads(count int) []head.Head {
	var out []head.Head
	for _, version := range []int{1, 2} {
		for kind := 1; kind <= 5; kind++ {
			for _, seq := range []uint32{0, 5, 1 << 31, math.MaxUint32} {
				for _, index := range []int{0, count / 2, count - 1} {
					out = append(out, head.Head{Version: version, Kind: kind, Seq: seq, Index: index, Count: count})
				}
			}
		}
	}
	return out
}

// far: numbers that are none of places, kinds, versions or counts; among them some that a byte or 32 bits would tell as one that is.
func far() []int {
	return []int{math.MinInt, math.MinInt + 1, -1<<32 + 1, math.MinInt32, -256, -255, -2, -1, 256, 257, 258, 259, 1 << 16, 1<<16 + 1, math.MaxInt32, 1 << 32, 1<<32 + 1, 1<<32 + 2, math.MaxInt - 1, math.MaxInt}
}

// plain: a head of a count.
func plain(count int) head.Head { return head.Head{Version: 2, Kind: 3, Seq: 9, Count: count} }

// others: heads that differ from one in one thing alone, which may be.
func others(h head.Head) []head.Head {
	version, kind, number, far, count := h, h, h, h, h
	version.Version = 3 - h.Version
	kind.Kind = h.Kind%5 + 1
	number.Seq++
	far.Seq += 1 << 31
	count.Count = h.Count%255 + 1
	return []head.Head{version, kind, number, far, count}
}

// P13.1, P13.2: the chapter's example, and what each call tells behind each frame.
func TestKnown(t *testing.T) {
	h := head.Head{Version: 2, Kind: 3, Seq: 9, Index: 1, Count: 2}
	s, m := of(t, h)
	answers(t, s, m, at(h, 1, 8, 9), api.OK)
	if b, ok := s.Bytes(); ok || len(b) > 0 || s.Full() || s.Have() != 1 || s.Size() != 2 || !slices.Equal(given(s.Missing(), 0), []int{0}) {
		t.Errorf("behind the first: %v, %t, %t, %d, %d, %v", b, ok, s.Full(), s.Have(), s.Size(), given(s.Missing(), 0))
	}
	answers(t, s, m, at(h, 0, 7), api.OK)
	if b, ok := s.Bytes(); !ok || !bytes.Equal(b, []byte{7, 8, 9}) || !s.Full() || s.Have() != 2 || s.Size() != 3 || len(given(s.Missing(), 0)) > 0 {
		t.Errorf("behind the second: %v, %t, %t, %d, %d, %v", b, ok, s.Full(), s.Have(), s.Size(), given(s.Missing(), 0))
	}
	answers(t, s, m, at(h, 0, 7), api.ErrTwice)
	answers(t, s, m, at(h, 1, 8, 9), api.ErrTwice)
	if s.Head() != (head.Head{Version: 2, Kind: 3, Seq: 9, Index: 0, Count: 2}) {
		t.Errorf("head %v", s.Head())
	}
}

// P13.1, P13.2: a fresh slot of any head that may be, whatever its index, has empty places, as many as the count.
func TestNew(t *testing.T) {
	for count := 1; count <= 255; count++ {
		for index := range count {
			h := head.Head{Version: 1 + index%2, Kind: 1 + index%5, Seq: uint32(index) * 0x1010101, Index: index, Count: count}
			s, e := slot.New(h)
			want := h
			want.Index = 0
			if e != api.OK || s.Head() != want || s.Have() != 0 || s.Size() != 0 || s.Full() {
				t.Fatalf("New(%v): %d, head %v, has %d, size %d, full: %t", h, e, s.Head(), s.Have(), s.Size(), s.Full())
			}
		}
	}
	for _, count := range counts() {
		for _, h := range heads(count) {
			s, m := of(t, h)
			is(t, "fresh", s, m)
		}
	}
}

// none: whether New tells this error, and no slot.
func none(t *testing.T, h head.Head, want api.Errno) {
	t.Helper()
	if s, e := slot.New(h); e != want || s != nil {
		t.Errorf("New(%v): %v, %d, not %d", h, s, e, want)
	}
}

// P13.1: each of Check's errors, at its bounds and far outside, and which comes first.
func TestNewErrors(t *testing.T) {
	none(t, head.Head{}, api.ErrVersion)
	for _, n := range append(far(), 0, 3, 4, 255) {
		none(t, head.Head{Version: n, Kind: 1, Count: 1}, api.ErrVersion)
		none(t, head.Head{Version: n, Kind: 6, Count: 1}, api.ErrVersion)
		none(t, head.Head{Version: n, Kind: 1, Count: 0}, api.ErrVersion)
		none(t, head.Head{Version: n, Kind: n, Index: n, Count: n}, api.ErrVersion)
	}
	for _, n := range append(far(), 0, 6, 7, 255) {
		none(t, head.Head{Version: 1, Kind: n, Count: 1}, api.ErrKind)
		none(t, head.Head{Version: 2, Kind: n, Index: n, Count: n}, api.ErrKind)
	}
	for _, n := range append(far(), 0) {
		none(t, head.Head{Version: 1, Kind: 5, Count: n}, api.ErrForm)
		none(t, head.Head{Version: 1, Kind: 5, Index: n, Count: n}, api.ErrForm)
		none(t, head.Head{Version: 1, Kind: 5, Index: 1, Count: n}, api.ErrForm)
	}
	for _, count := range counts() {
		for _, index := range append(far(), count, count+1) {
			none(t, head.Head{Version: 2, Kind: 1, Index: index, Count: count}, api.ErrForm)
		}
	}
}

// P13.1: a frame that differs from the slot's head in one thing alone is no mate, whatever else it is; its index may differ.
func TestNoMate(t *testing.T) {
	for _, count := range []int{1, 2, 3, 254, 255} {
		for _, h := range heads(count) {
			s, m := of(t, h)
			for _, other := range others(h) {
				for _, index := range []int{0, count - 1} {
					answers(t, s, m, at(other, index, 1), api.ErrMeet)
				}
			}
			answers(t, s, m, at(h, count-1, 1), api.OK)
			for _, other := range others(h) {
				answers(t, s, m, at(other, count-1, 1), api.ErrMeet)
				answers(t, s, m, at(other, 0, 1), api.ErrMeet)
			}
		}
	}
	h := plain(2)
	s, m := of(t, h)
	for _, n := range append(far(), 0) {
		for i := range 3 {
			other := h
			*[]*int{&other.Version, &other.Kind, &other.Count}[i] = n
			answers(t, s, m, at(other, 0, 1), api.ErrMeet)
		}
	}
	answers(t, s, m, frame.Frame{}, api.ErrMeet)
}

// P13.1: the first place and the last one are, and none outside.
func TestPlaces(t *testing.T) {
	for _, count := range counts() {
		h := plain(count)
		s, m := of(t, h)
		outside := append(far(), count, count+1, count+2)
		for _, index := range outside {
			answers(t, s, m, at(h, index, 1), api.ErrForm)
		}
		answers(t, s, m, at(h, count-1, 4, 5), api.OK)
		if count > 1 {
			answers(t, s, m, at(h, 0, 6), api.OK)
		}
		for _, index := range outside {
			answers(t, s, m, at(h, index, 1), api.ErrForm)
		}
	}
}

// P13.1: no payload, a nil one or an empty one, is refused at each place.
func TestNoPayload(t *testing.T) {
	for _, count := range counts() {
		h := plain(count)
		s, m := of(t, h)
		for i := range count {
			puts(t, s, m, at(h, i), api.ErrShort)
			puts(t, s, m, frame.Frame{Head: at(h, i).Head, Payload: row(4, 0)[:0]}, api.ErrShort)
		}
		is(t, "behind no payload", s, m)
		answers(t, s, m, at(h, 0, 0), api.OK) // a 0 is a payload
	}
}

// P13.1: what is put once more is refused, and what stood there stays, whether it is the same or not.
func TestTwice(t *testing.T) {
	for _, count := range counts() {
		h := plain(count)
		s, m := of(t, h)
		for _, i := range []int{count - 1, 0, count / 2} {
			put(t, s, m, at(h, i, byte(i), 3))
			for _, payload := range [][]byte{{byte(i), 3}, {byte(i), 4}, {1}, {byte(i), 3, 3}, {0}, row(190, 1), row(191, 1), row(192, 1), row(193, 1)} {
				answers(t, s, m, at(h, i, payload...), api.ErrTwice)
			}
		}
	}
}

// P13.1: payloads are 192 bytes in all at most.
func TestMany(t *testing.T) {
	for _, count := range counts() {
		for _, n := range []int{193, 194, 241, 242, 243, 255, 256, 257, 256 + 5, 1000, 65536, 65536 + 1} {
			s, m := of(t, plain(count))
			for _, i := range []int{0, count - 1} {
				answers(t, s, m, at(plain(count), i, row(n, 0)...), api.ErrMany)
			}
		}
		for _, n := range []int{1, 2, 96, 191, 192} {
			s, m := of(t, plain(count))
			answers(t, s, m, at(plain(count), count-1, row(n, 0)...), api.OK)
		}
	}
	for n := 1; n <= 192; n++ { // so many bytes, then one more than there may be, then as many as there may
		h := plain(3)
		s, m := of(t, h)
		answers(t, s, m, at(h, n%3, row(n, 0)...), api.OK)
		answers(t, s, m, at(h, (n+1)%3, row(193-n, 1)...), api.ErrMany)
		answers(t, s, m, at(h, (n+2)%3, row(192, 1)...), api.ErrMany)
		if n < 192 {
			answers(t, s, m, at(h, (n+1)%3, row(192-n, 1)...), api.OK)
		}
		left := (n + 2) % 3
		if n == 192 {
			left = (n + 1) % 3
		}
		answers(t, s, m, at(h, left, 7), api.ErrMany)
		answers(t, s, m, at(h, n%3, 7), api.ErrTwice)
	}
}

// P13.1, P13.2: slots that are full with their last frame, of 192 bytes in all; those of more places never are.
func TestFull(t *testing.T) {
	for _, count := range []int{1, 2, 3, 7, 191, 192, 193, 254, 255} {
		for _, first := range []int{0, count - 1, count / 2} {
			h := plain(count)
			s, m := of(t, h)
			for k := range count {
				i := (first + k) % count
				want := api.OK
				if k >= 192 {
					want = api.ErrMany
				}
				answers(t, s, m, at(h, i, byte(i)), want)
			}
			if s.Full() != (count <= 192) || s.Size() != min(count, 192) || s.Have() != min(count, 192) {
				t.Errorf("%d places: full: %t, size %d, has %d", count, s.Full(), s.Size(), s.Have())
			}
			answers(t, s, m, at(h, first, 1), api.ErrTwice)
			answers(t, s, m, at(h, first), api.ErrShort)
		}
	}
	for _, sizes := range [][]int{{192}, {191, 1}, {1, 191}, {96, 96}, {64, 64, 64}, {1, 190, 1}, {190, 1, 1}} {
		h := plain(len(sizes))
		s, m := of(t, h)
		for i, n := range sizes {
			answers(t, s, m, at(h, i, row(n, i)...), api.OK)
		}
		if b, ok := s.Bytes(); !ok || len(b) != 192 || s.Size() != 192 {
			t.Errorf("%v: %d bytes, %t, size %d", sizes, len(b), ok, s.Size())
		}
	}
}

// again: what is told of a frame that comes again at once.
func again(e api.Errno) api.Errno {
	if e == api.OK {
		return api.ErrTwice
	}
	return e
}

// P13.1: several errors at once are told in their order, and a frame that is refused changes nothing.
func TestFirstError(t *testing.T) {
	h := plain(3)
	other := others(h)[2]
	for i, x := range []struct {
		f frame.Frame
		e api.Errno
	}{
		{at(other, 3), api.ErrMeet}, // no mate, no place, no payload
		{at(other, -1, row(193, 0)...), api.ErrMeet},
		{at(other, 1), api.ErrMeet},
		{at(other, 2, 7, 8), api.ErrMeet}, // no mate, twice
		{at(other, 0, row(191, 0)...), api.ErrMeet},
		{at(h, 3), api.ErrForm}, // no place, no payload
		{at(h, -1), api.ErrForm},
		{at(h, 3, row(191, 0)...), api.ErrForm}, // no place, too many
		{at(h, 2), api.ErrShort},                // no payload, twice
		{at(h, 2, row(193, 0)...), api.ErrTwice},
		{at(h, 2, row(191, 0)...), api.ErrTwice}, // twice, too many
		{at(h, 0, row(191, 0)...), api.ErrMany},
		{at(h, 0, row(190, 0)...), api.OK},
		{at(h, 1), api.ErrShort}, // no payload, where no byte has room
		{at(h, 1, 5), api.ErrMany},
		{at(h, 0, 5), api.ErrTwice},
		{at(h, 0), api.ErrShort},
	} {
		s, m := of(t, h)
		answers(t, s, m, at(h, 2, 7, 8), api.OK)
		if i > 12 {
			answers(t, s, m, at(h, 0, row(190, 0)...), api.OK)
		}
		answers(t, s, m, x.f, x.e)
		answers(t, s, m, x.f, again(x.e))
	}
}

// frames: an alphabet of them for a head: mates and others, at places and outside, of some payloads.
func frames(h head.Head) []frame.Frame {
	var out []frame.Frame
	for _, index := range []int{-1, 0, 1, h.Count - 1, h.Count} {
		for _, n := range []int{0, 1, 2, 96, 191, 192, 193} {
			out = append(out, at(h, index, row(n, index)...))
		}
	}
	for _, other := range others(h) {
		out = append(out, at(other, 0, 1), at(other, h.Count))
	}
	return out
}

// P13.1, P13.2: all short rows of frames, against the words.
func TestShortRows(t *testing.T) {
	for _, count := range []int{1, 2, 3, 255} {
		h := plain(count)
		all := frames(h)
		for _, a := range all {
			for _, b := range all {
				s, m := of(t, h)
				put(t, s, m, a)
				put(t, s, m, b)
				for _, c := range all {
					s, m := s.Copy(), m.copied()
					put(t, s, m, c)
				}
			}
		}
	}
}

// chance: numbers that look like chance, the same each time.
type chance uint64

// below: the next one, below a bound.
func (c *chance) below(n int) int {
	*c = *c*6364136223846793005 + 1442695040888963407
	return int(uint64(*c) >> 33 % uint64(n))
}

// P13.1, P13.2: long rows of frames, against the words.
func TestLongRows(t *testing.T) {
	c := chance(1)
	for _, count := range counts() {
		for _, most := range []int{1, 2, 192/count + 1, 192/count + 2, 250} {
			h := plain(count)
			s, m := of(t, h)
			for range 3 * count {
				f := at(h, c.below(count+2)-1, row(c.below(most+1), c.below(256))...)
				if c.below(20) == 0 {
					f.Head = others(f.Head)[c.below(5)]
				}
				put(t, s, m, f)
			}
		}
	}
}

// orders: calls f with each order of a list.
func orders(begin, left []int, f func(l []int)) {
	if len(left) == 0 {
		f(begin)
		return
	}
	for i, n := range left {
		orders(append(slices.Clone(begin), n), slices.Delete(slices.Clone(left), i, i+1), f)
	}
}

// wholly: puts a body's frames in an order, some of them more than once, and asks for the body.
func wholly(t *testing.T, body []byte, room int, order []int) {
	t.Helper()
	l, e := cut.Frames(plain(1), body, room)
	if e != api.OK {
		t.Fatal(e)
	}
	s, m := of(t, l[order[0]].Head)
	came := make([]bool, len(l))
	for _, i := range order {
		want := api.OK
		if came[i] {
			want = api.ErrTwice
		}
		came[i] = true
		answers(t, s, m, l[i], want)
	}
	if b, ok := s.Bytes(); !ok || !bytes.Equal(b, body) {
		t.Errorf("%d bytes by %d, in the order %v: %v, %t", len(body), room, order, b, ok)
	}
}

// P13.3: in whatever order frames come, some more than once, the bytes are those of their places.
func TestOrders(t *testing.T) {
	for _, x := range [][2]int{{1, 1}, {7, 7}, {7, 4}, {7, 3}, {9, 3}, {7, 2}, {192, 48}, {10, 2}, {12, 2}} {
		parts := cut.Count(x[0], x[1])
		var all []int
		for i := range parts {
			all = append(all, i)
		}
		orders(nil, all, func(l []int) {
			wholly(t, row(x[0], 3), x[1], l)
			twice := append(slices.Clone(l), l...)
			wholly(t, row(x[0], 3), x[1], twice)
			slices.Sort(twice)
			wholly(t, row(x[0], 3), x[1], twice)
		})
	}
	c := chance(5)
	for _, x := range [][2]int{{192, 1}, {191, 1}, {192, 2}, {100, 3}, {192, 5}, {64, 1}} {
		parts := cut.Count(x[0], x[1])
		for range 4 {
			var order []int
			for lacks := parts; lacks > 0; {
				i := c.below(parts)
				if !slices.Contains(order, i) {
					lacks--
				}
				order = append(order, i)
			}
			wholly(t, row(x[0], 4), x[1], order)
		}
	}
}

// spoil: puts other bytes over a list, its spare room and behind it.
func spoil(b []byte) {
	for i := range b[:cap(b)] {
		b[:cap(b)][i] = 99
	}
	_ = append(b, 99, 99, 99)
}

// The rules on memory: a payload is neither kept nor changed, nor its spare room, whether it is put or refused.
func TestPayloadIsItsCallers(t *testing.T) {
	h := plain(2)
	s, m := of(t, h)
	for _, i := range []int{1, 1, 0, 0, 2, -1} {
		spare := row(9, i)
		was := slices.Clone(spare)
		put(t, s, m, at(h, i, spare[:3]...))
		if !bytes.Equal(spare, was) {
			t.Errorf("place %d: changed to %v", i, spare)
		}
		spoil(spare[:3])
		is(t, "behind a payload that was changed", s, m)
	}
}

// The rules on memory: the bytes that Bytes gave are their caller's, who may change them and put to them.
func TestBytesAreNew(t *testing.T) {
	for _, sizes := range [][]int{{1}, {5}, {192}, {1, 1}, {5, 9}, {2, 3, 4}} {
		h := plain(len(sizes))
		s, m := of(t, h)
		for i, n := range sizes {
			answers(t, s, m, at(h, i, row(n, i)...), api.OK)
		}
		one, _ := s.Bytes()
		other, _ := s.Bytes()
		spoil(one)
		if !bytes.Equal(other, slices.Concat(m.places...)) {
			t.Errorf("%v: bytes of two calls share memory: %v", sizes, other)
		}
		is(t, "when bytes were changed", s, m)
	}
}

// some: a slot of a count with some places that aren't empty, and its model.
func some(t *testing.T, count int) (*slot.Slot, *model) {
	t.Helper()
	h := plain(count)
	s, m := of(t, h)
	for i := count - 1; i >= 0; i-- {
		if i%5 == 1 || i%7 == 3 {
			put(t, s, m, at(h, i, byte(i)))
		}
	}
	return s, m
}

// P13.2: a ranging over Missing is left at each of its places, asks no further then, and gives them anew each time, also within a loop.
func TestMissingIsRangedOver(t *testing.T) {
	for _, count := range []int{1, 2, 3, 20, 64} {
		s, m := some(t, count)
		want, seq := m.missing(), s.Missing()
		for most := 1; most <= len(want); most++ {
			if got := given(seq, most); !slices.Equal(got, want[:most]) {
				t.Errorf("%d places, left at %d: %v", count, most, got)
			}
			asked := 0
			seq(func(int) bool {
				asked++
				return asked < most
			})
			if asked != most {
				t.Errorf("%d places, left at %d: asked %d times", count, most, asked)
			}
			if got := given(seq, 0); !slices.Equal(got, want) {
				t.Errorf("%d places, behind a loop that was left at %d: %v", count, most, got)
			}
		}
		outer := 0
		for i := range seq {
			if i != want[outer] {
				t.Errorf("%d places: %d, with a loop in the loop", count, i)
			}
			outer++
			if got := given(seq, outer); !slices.Equal(got, want[:outer]) {
				t.Errorf("%d places, a loop in the loop: %v", count, got)
			}
		}
		if outer != len(want) {
			t.Errorf("%d places: %d, with a loop in the loop", count, outer)
		}
		is(t, "behind rangings", s, m)
	}
}

// P13.2: what Missing gives is of when it was called, also when frames come ahead of the ranging, or within it; a full slot gives nothing.
func TestMissingIsOfItsCall(t *testing.T) {
	s, m := some(t, 20)
	want, seq := m.missing(), s.Missing()
	answers(t, s, m, at(m.h, want[2], 1), api.OK)
	if got := given(seq, 0); !slices.Equal(got, want) {
		t.Errorf("%v, behind a frame, not %v", got, want)
	}
	want = m.missing()
	var got []int
	for i := range s.Missing() {
		got = append(got, i)
		if last := m.missing(); len(last) > 0 {
			answers(t, s, m, at(m.h, last[len(last)-1], 1), api.OK)
		}
	}
	if !slices.Equal(got, want) {
		t.Errorf("%v, with frames between, not %v", got, want)
	}
	if !s.Full() || s.Missing() == nil || len(given(s.Missing(), 0)) > 0 {
		t.Errorf("full: %t, missing %v", s.Full(), given(s.Missing(), 0))
	}
}

// P13.2: a copy is the same, and what is put to it, or to the slot that it was made from, is put to it alone.
func TestCopy(t *testing.T) {
	for _, count := range []int{1, 2, 3, 20, 64, 255} {
		for _, fresh := range []bool{true, false} {
			s, m := some(t, count)
			if fresh {
				s, m = of(t, plain(count))
			}
			c, mc := s.Copy(), m.copied()
			is(t, "a copy", c, mc)
			first := m.missing()[0]
			answers(t, c, mc, at(m.h, first, 8, 9), api.OK)
			is(t, "a slot whose copy was put to", s, m)
			c, mc = s.Copy(), m.copied()
			answers(t, s, m, at(m.h, first, 5), api.OK)
			is(t, "a copy whose slot was put to", c, mc)
			for _, i := range mc.missing() {
				put(t, c, mc, at(m.h, i, byte(i), 6))
				put(t, s, m, at(m.h, i, byte(i)))
				is(t, "a copy, both put to", c, mc)
				is(t, "a slot, both put to", s, m)
			}
			c, mc = s.Copy().Copy(), m.copied()
			is(t, "a copy of a copy", c, mc)
			b, _ := c.Bytes()
			spoil(b)
			is(t, "a slot, when a copy's bytes were changed", s, m)
			is(t, "a copy, when its bytes were changed", c, mc)
			for _, index := range []int{first, count, -1} { // a copy refuses what its slot does
				put(t, c, mc, at(m.h, index, 1))
			}
			for _, other := range others(m.h) {
				answers(t, c, mc, at(other, first, 1), api.ErrMeet)
			}
		}
	}
}

// P13.1: two slots of one head are two.
func TestTwo(t *testing.T) {
	h := plain(2)
	a, ma := of(t, h)
	b, mb := of(t, h)
	answers(t, a, ma, at(h, 0, 1), api.OK)
	answers(t, b, mb, at(h, 0, 2, 3), api.OK)
	answers(t, a, ma, at(h, 1, 4), api.OK)
	is(t, "the other one", b, mb)
	answers(t, b, mb, at(h, 1, 5), api.OK)
	is(t, "the one", a, ma)
}

// P13.3: a nil slot answers each call, and stays nil.
func TestNil(t *testing.T) {
	var s *slot.Slot
	for range 2 {
		for _, f := range append(frames(plain(3)), frame.Frame{}, at(head.Head{}, 0, 1)) {
			if e := s.Put(f); e != api.ErrArg {
				t.Errorf("nil: Put(%v): %d", f, e)
			}
		}
		if s.Head() != (head.Head{}) || s.Have() != 0 || s.Size() != 0 || s.Full() {
			t.Errorf("nil: head %v, has %d, size %d, full: %t", s.Head(), s.Have(), s.Size(), s.Full())
		}
		if b, ok := s.Bytes(); ok || len(b) > 0 {
			t.Errorf("nil: bytes %v, %t", b, ok)
		}
		missing := s.Missing()
		if missing == nil {
			t.Fatal("nil: Missing is nil")
		}
		if got := given(missing, 0); len(got) > 0 {
			t.Errorf("nil: missing %v", got)
		}
		if s.Copy() != nil {
			t.Error("nil: a copy")
		}
	}
}
