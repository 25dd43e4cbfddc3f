package table_test

import (
	"bytes"
	"math"
	"slices"
	"testing"

	"cuneiform/api"
	"cuneiform/cut"
	"cuneiform/frame"
	"cuneiform/head"
	"cuneiform/slot"
	"cuneiform/table"
)

// places: a slot as the words say it: a head with the index 0, and a payload, or none, at each place.
type places struct {
	h   head.Head
	has [][]byte
}

// model: a table as the chapter's words say it: a room, and slots in the order in which they came.
type model struct {
	room  int
	slots []*places
}

// wrong: what is wrong with a head, by the words.
func wrong(h head.Head) api.Errno {
	switch {
	case h.Version != 1 && h.Version != 2:
		return api.ErrVersion
	case h.Kind < 1 || h.Kind > 5:
		return api.ErrKind
	case h.Count < 1 || h.Count > 255 || h.Index < 0 || h.Index > h.Count-1:
		return api.ErrForm
	}
	return api.OK
}

// after: is b after a, by the words: from 1 to 2^31 - 1 steps lead from a to b.
func after(a, b uint32) bool { return b != a && b-a < 1<<31 }

func (s *places) bytes() []byte { return slices.Concat(s.has...) }

// missing: the places that are empty.
func (s *places) missing() []int {
	var out []int
	for i, p := range s.has {
		if p == nil {
			out = append(out, i)
		}
	}
	return out
}

// put: what the slot tells of a frame whose head may be, with a payload; it is put where that is OK.
func (s *places) put(f frame.Frame) api.Errno {
	a, b := s.h, f.Head
	switch {
	case a.Version != b.Version || a.Kind != b.Kind || a.Seq != b.Seq || a.Count != b.Count:
		return api.ErrMeet
	case s.has[b.Index] != nil:
		return api.ErrTwice
	case len(s.bytes())+len(f.Payload) > 192:
		return api.ErrMany
	}
	s.has[b.Index] = append([]byte{}, f.Payload...)
	return api.OK
}

// at: where the slot of a number stands; -1 without one.
func (m *model) at(seq uint32) int {
	return slices.IndexFunc(m.slots, func(s *places) bool { return s.h.Seq == seq })
}

// oldest: where the oldest one of the numbers stands: from the left, each that is ahead of the one that was taken is taken.
func (m *model) oldest() int {
	at := 0
	for i, s := range m.slots {
		if after(s.h.Seq, m.slots[at].h.Seq) {
			at = i
		}
	}
	return at
}

// put: what P14.1 has to tell of a frame.
func (m *model) put(f frame.Frame) (table.Out, api.Errno) {
	var out table.Out
	if e := wrong(f.Head); e != api.OK {
		return out, e
	}
	if len(f.Payload) == 0 {
		return out, api.ErrShort
	}
	at := m.at(f.Head.Seq)
	switch {
	case at >= 0:
		if e := m.slots[at].put(f); e != api.OK {
			return out, e
		}
	case len(f.Payload) > 192:
		return out, api.ErrMany
	default:
		if len(m.slots) == m.room {
			old := m.oldest()
			seq := m.slots[old].h.Seq
			if !after(seq, f.Head.Seq) {
				return out, api.ErrLate
			}
			m.slots = slices.Delete(m.slots, old, old+1)
			out.Evicted, out.Old = true, seq
		}
		h := f.Head
		h.Index = 0
		at = len(m.slots)
		m.slots = append(m.slots, &places{h, make([][]byte, h.Count)})
		m.slots[at].put(f)
	}
	if s := m.slots[at]; len(s.missing()) == 0 {
		out.Whole, out.Body = true, s.bytes()
		m.slots = slices.Delete(m.slots, at, at+1)
	}
	return out, api.OK
}

// drop: what P14.2 has to tell of a number.
func (m *model) drop(seq uint32) bool {
	at := m.at(seq)
	if at >= 0 {
		m.slots = slices.Delete(m.slots, at, at+1)
	}
	return at >= 0
}

func (m *model) seqs() []uint32 {
	var out []uint32
	for _, s := range m.slots {
		out = append(out, s.h.Seq)
	}
	return out
}

func (m *model) held() int {
	n := 0
	for _, s := range m.slots {
		n += len(s.bytes())
	}
	return n
}

func (m *model) copied() *model {
	c := &model{room: m.room}
	for _, s := range m.slots {
		has := make([][]byte, len(s.has))
		for i, p := range s.has {
			has[i] = slices.Clone(p)
		}
		c.slots = append(c.slots, &places{s.h, has})
	}
	return c
}

// slotIs: whether a slot that All gave is as the words say. It is filled to look at its bytes, for a copy may be.
func slotIs(t *testing.T, what string, s *slot.Slot, want *places) {
	t.Helper()
	missing := want.missing()
	if s == nil {
		t.Fatalf("%s: no slot of %v", what, want.h)
	}
	if s.Head() != want.h || s.Have() != want.h.Count-len(missing) || s.Size() != len(want.bytes()) || s.Full() {
		t.Fatalf("%s: the slot of %v has %d with %d bytes, of %v", what, s.Head(), s.Have(), s.Size(), want)
	}
	if got := slices.Collect(s.Missing()); !slices.Equal(got, missing) {
		t.Fatalf("%s: the slot of %v lacks %v, not %v", what, want.h, got, missing)
	}
	if len(want.bytes())+len(missing) > 192 {
		return
	}
	var whole []byte
	for i, p := range want.has {
		if p == nil {
			p = []byte{0}
			s.Put(frameOf(want.h, i, p...))
		}
		whole = append(whole, p...)
	}
	if b, ok := s.Bytes(); !ok || !bytes.Equal(b, whole) {
		t.Fatalf("%s: the slot of %v, filled, is %v, not %v", what, want.h, b, whole)
	}
}

// allIs: whether All gives just these, in order.
func allIs(t *testing.T, what string, x *table.Table, m *model) {
	t.Helper()
	i := 0
	for seq, s := range x.All() {
		if i >= len(m.slots) || seq != m.slots[i].h.Seq {
			t.Fatalf("%s: All gives %d at %d of %v", what, seq, i, m.seqs())
		}
		slotIs(t, what, s, m.slots[i])
		i++
	}
	if i != len(m.slots) {
		t.Fatalf("%s: All gives %d slots of %v", what, i, m.seqs())
	}
}

// is: whether each call tells of a table what the words say of it, and it holds no more than P14.3 lets it.
func is(t *testing.T, what string, x *table.Table, m *model) {
	t.Helper()
	if x.Room() != m.room || x.Len() != len(m.slots) || x.Held() != m.held() {
		t.Fatalf("%s: room %d, length %d, holds %d; not %d, %d, %d", what, x.Room(), x.Len(), x.Held(), m.room, len(m.slots), m.held())
	}
	if got := x.Seqs(); !slices.Equal(got, m.seqs()) {
		t.Fatalf("%s: numbers %v, not %v", what, got, m.seqs())
	}
	if x.Len() > x.Room() || x.Held() > 192*x.Len() {
		t.Fatalf("%s: %d slots in %d, holding %d", what, x.Len(), x.Room(), x.Held())
	}
	allIs(t, what, x, m)
	allIs(t, what+", again", x, m) // the slots that were given have been put to
}

// of: a table of a room, and its model.
func of(t *testing.T, room int) (*table.Table, *model) {
	t.Helper()
	x, e := table.New(room)
	if e != api.OK || x == nil {
		t.Fatalf("New(%d): %v, %d", room, x, e)
	}
	return x, &model{room: room}
}

// same: are two answers?
func same(a, b table.Out) bool {
	return bytes.Equal(a.Body, b.Body) && a.Whole == b.Whole && a.Evicted == b.Evicted && a.Old == b.Old
}

// put: whether Put tells what the words do, and each call what it has to behind it.
func put(t *testing.T, x *table.Table, m *model, f frame.Frame) (table.Out, api.Errno) {
	t.Helper()
	what := frame.Line(f)
	was := m.seqs()
	out, e := x.Put(f)
	want, we := m.put(f)
	if !same(out, want) || e != we {
		t.Fatalf("%s, to %v in %d: %v, %d, not %v, %d", what, was, m.room, out, e, want, we)
	}
	is(t, "behind "+what, x, m)
	return want, e
}

// answers: whether Put tells just this.
func answers(t *testing.T, x *table.Table, m *model, f frame.Frame, want table.Out, we api.Errno) {
	t.Helper()
	if out, e := put(t, x, m, f); !same(out, want) || e != we {
		t.Fatalf("%s, by the words: %v, %d, not %v, %d", frame.Line(f), out, e, want, we)
	}
}

// refused: whether Put tells this error.
func refused(t *testing.T, x *table.Table, m *model, f frame.Frame, want api.Errno) {
	t.Helper()
	answers(t, x, m, f, table.Out{}, want)
}

// kept: whether Put takes a frame, and nothing else comes of it.
func kept(t *testing.T, x *table.Table, m *model, l ...frame.Frame) {
	t.Helper()
	for _, f := range l {
		answers(t, x, m, f, table.Out{}, api.OK)
	}
}

// evicts: whether Put takes a frame, and this number's slot goes for it.
func evicts(t *testing.T, x *table.Table, m *model, f frame.Frame, old uint32) {
	t.Helper()
	answers(t, x, m, f, table.Out{Evicted: true, Old: old}, api.OK)
}

// whole: whether Put takes a frame, which is the last one of this body.
func whole(t *testing.T, x *table.Table, m *model, f frame.Frame, body ...byte) {
	t.Helper()
	answers(t, x, m, f, table.Out{Whole: true, Body: body}, api.OK)
}

// drops: whether Drop tells this of a number, and each call what it has to behind it.
func drops(t *testing.T, x *table.Table, m *model, seq uint32, want bool) {
	t.Helper()
	if got := m.drop(seq); got != want {
		t.Fatalf("Drop(%d), by the words: %t", seq, got)
	}
	if got := x.Drop(seq); got != want {
		t.Fatalf("Drop(%d): %t", seq, got)
	}
	is(t, "behind a drop", x, m)
}

// frameOf: a mate of a head, with this index.
func frameOf(h head.Head, index int, payload ...byte) frame.Frame {
	h.Index = index
	return frame.Frame{Head: h, Payload: payload}
}

// at: a frame of a number.
func at(seq uint32, index, count int, payload ...byte) frame.Frame {
	return frame.Frame{Head: head.Head{Version: 2, Kind: 3, Seq: seq, Index: index, Count: count}, Payload: payload}
}

// row: n bytes that are told apart from those of another length, or begun otherwise.
func row(n, begin int) []byte {
	out := make([]byte, n)
	for i := range out {
		out[i] = byte(begin + i*7 + n)
	}
	return out
}

// filled: a table that is just full, with a fragment of each of these numbers, of 2.
func filled(t *testing.T, seqs ...uint32) (*table.Table, *model) {
	t.Helper()
	x, m := of(t, len(seqs))
	for i, seq := range seqs {
		kept(t, x, m, at(seq, i%2, 2, byte(i), byte(seq)))
	}
	return x, m
}

// run: n numbers from one on.
func run(from uint32, n int) []uint32 {
	var out []uint32
	for i := range n {
		out = append(out, from+uint32(i))
	}
	return out
}

// P14.1: the chapter's example, and what each call tells behind each frame.
func TestKnown(t *testing.T) {
	x, m := of(t, 1)
	kept(t, x, m, at(5, 0, 2, 1))
	evicts(t, x, m, at(6, 0, 2, 2, 3), 5)
	refused(t, x, m, at(5, 0, 2, 1), api.ErrLate)
	if x.Len() != 1 || x.Held() != 2 || !slices.Equal(x.Seqs(), []uint32{6}) {
		t.Errorf("%d slots, %d bytes, %v", x.Len(), x.Held(), x.Seqs())
	}
	whole(t, x, m, at(6, 1, 2, 9), 2, 3, 9)
	if x.Len() != 0 || x.Held() != 0 || len(x.Seqs()) > 0 || x.Room() != 1 {
		t.Errorf("%d slots, %d bytes, %v, room %d", x.Len(), x.Held(), x.Seqs(), x.Room())
	}
}

// P14.1: rooms from 1 to 16 may be, and none outside.
func TestNew(t *testing.T) {
	for room := 1; room <= 16; room++ {
		x, m := of(t, room)
		is(t, "fresh", x, m)
	}
	for _, room := range []int{math.MinInt, math.MinInt32, -1<<32 + 1, -256, -16, -2, -1, 0, 17, 18, 255, 256, 257, 1<<16 + 1, math.MaxInt32, 1<<32 + 1, math.MaxInt - 1, math.MaxInt} {
		if x, e := table.New(room); x != nil || e != api.ErrRange {
			t.Errorf("New(%d): %v, %d", room, x, e)
		}
	}
}

// P14.1, P14.3: of each room, slots come till it is just full, none going; then the oldest goes for each.
func TestRooms(t *testing.T) {
	for room := 1; room <= 16; room++ {
		for _, from := range []uint32{0, 7, math.MaxUint32 - 7, math.MaxUint32} {
			x, m := of(t, room)
			for _, seq := range run(from, room) {
				if x.Len() == room {
					t.Fatalf("room %d: full ahead of its last slot", room)
				}
				kept(t, x, m, at(seq, 1, 2, byte(seq), 1))
			}
			for _, seq := range run(from, 2*room) {
				evicts(t, x, m, at(seq+uint32(room), 0, 3, byte(seq)), seq)
			}
			refused(t, x, m, at(from, 1, 2, 1), api.ErrLate)
		}
	}
}

// P14.1: a frame of the number of each slot is put there, in a table that is full and in one that isn't; where its slot is full with it, it goes, and the others stand in their order.
func TestOfEachSlot(t *testing.T) {
	for _, n := range []int{1, 2, 3, 5, 16} {
		for _, room := range []int{n, min(n+1, 16)} {
			for i := range n {
				x, m := of(t, room)
				for k := range n {
					kept(t, x, m, at(uint32(100-k), 1, 3, byte(k), 7))
				}
				seq := uint32(100 - i)
				kept(t, x, m, at(seq, 2, 3, 8, 9))
				refused(t, x, m, at(seq, 2, 3, 8, 9), api.ErrTwice)
				refused(t, x, m, at(seq, 0, 2, 8), api.ErrMeet)
				whole(t, x, m, at(seq, 0, 3, 5), 5, byte(i), 7, 8, 9)
				kept(t, x, m, at(seq, 0, 3, 6)) // it comes again, and stands last
				if l := x.Seqs(); l[n-1] != seq {
					t.Errorf("%d came again, and stands in %v", seq, l)
				}
			}
		}
	}
}

// P14.1: a frame whose count is 1 is whole at once: where the table isn't full no slot goes for it, where it is the oldest goes, or it is late.
func TestCountOfOne(t *testing.T) {
	x, m := of(t, 2)
	whole(t, x, m, at(9, 0, 1, 4), 4)
	whole(t, x, m, at(9, 0, 1, 4), 4)
	kept(t, x, m, at(7, 0, 2, 1))
	whole(t, x, m, at(3, 0, 1, 4, 5), 4, 5) // one that is older than all comes, as long as there is room
	kept(t, x, m, at(6, 1, 2, 2))
	refused(t, x, m, at(5, 0, 1, 4), api.ErrLate)
	refused(t, x, m, at(7, 0, 1, 4), api.ErrMeet)
	answers(t, x, m, at(8, 0, 1, 4, 5), table.Out{Whole: true, Body: []byte{4, 5}, Evicted: true, Old: 6}, api.OK)
	whole(t, x, m, at(6, 0, 1, 3), 3)
	for _, n := range []int{1, 2, 16} {
		x, m := filled(t, run(50, n)...)
		for i := range n {
			out := table.Out{Whole: true, Body: row(9, i)}
			if i == 0 {
				out.Evicted, out.Old = true, 50
			}
			answers(t, x, m, at(uint32(90-i), 0, 1, row(9, i)...), out, api.OK)
		}
	}
}

// P14.1: payloads of 192 bytes and of 193, of a new number and of one that has a slot, in tables that are full and that aren't.
func TestPayloads(t *testing.T) {
	for n := 1; n <= 192; n++ {
		x, m := of(t, 2)
		whole(t, x, m, at(1, 0, 1, row(n, 0)...), row(n, 0)...)
		kept(t, x, m, at(1, 1, 2, row(n, 0)...))
		refused(t, x, m, at(1, 0, 2, row(193-n, 1)...), api.ErrMany)
		if n < 192 {
			whole(t, x, m, at(1, 0, 2, row(192-n, 1)...), append(row(192-n, 1), row(n, 0)...)...)
		}
	}
	for _, n := range []int{193, 194, 242, 243, 256, 257, 448, 1 << 16} {
		for _, count := range []int{1, 2, 255} {
			x, m := of(t, 2)
			refused(t, x, m, at(1, count-1, count, row(n, 0)...), api.ErrMany)
			kept(t, x, m, at(5, 0, 2, 1))
			refused(t, x, m, at(1, count-1, count, row(n, 0)...), api.ErrMany)
			kept(t, x, m, at(6, 0, 2, 1))
			refused(t, x, m, at(7, count-1, count, row(n, 0)...), api.ErrMany) // the oldest doesn't go for it
			refused(t, x, m, at(1, count-1, count, row(n, 0)...), api.ErrMany) // it would be late, too
			refused(t, x, m, at(5, 1, 2, row(n, 0)...), api.ErrMany)
			refused(t, x, m, at(5, 0, 2, row(n, 0)...), api.ErrTwice)
			refused(t, x, m, at(5, 0, 3, row(n, 0)...), api.ErrMeet)
		}
	}
	x, m := of(t, 16)
	for _, seq := range run(math.MaxUint32-3, 16) { // all that a table may hold
		kept(t, x, m, at(seq, 1, 2, row(192, int(seq))...))
		refused(t, x, m, at(seq, 0, 2, 1), api.ErrMany)
	}
	if x.Held() != 16*192 || x.Len() != 16 {
		t.Errorf("%d slots hold %d", x.Len(), x.Held())
	}
	evicts(t, x, m, at(20, 0, 2, 1), math.MaxUint32-3)
	if x.Held() != 15*192+1 {
		t.Errorf("holds %d", x.Held())
	}
}

// P14.1: which numbers are after the oldest one, about the round's end and half a round away.
func TestGoRound(t *testing.T) {
	const half = 1 << 31
	for _, old := range []uint32{0, 1, 5, half - 1, half, half + 1, math.MaxUint32 - 1, math.MaxUint32} {
		for _, way := range []uint32{1, 2, 63, 64, 65, half - 2, half - 1} {
			x, m := filled(t, old)
			evicts(t, x, m, at(old+way, 0, 2, 1), old)
			if way > 1 {
				x, m = filled(t, old+1, old)
				evicts(t, x, m, at(old+way, 0, 2, 1), old)
			}
		}
		for _, way := range []uint32{half, half + 1, half + 2, math.MaxUint32 - 64, math.MaxUint32 - 1, math.MaxUint32} {
			x, m := filled(t, old)
			refused(t, x, m, at(old+way, 0, 2, 1), api.ErrLate)
			refused(t, x, m, at(old+way, 0, 1, 1), api.ErrLate)
			x, m = of(t, 2)
			kept(t, x, m, at(old, 0, 2, 1), at(old+way, 0, 2, 1)) // with room none is late
		}
	}
	x, m := of(t, 3)
	kept(t, x, m, at(1, 0, 2, 1), at(math.MaxUint32, 0, 2, 1), at(0, 0, 2, 1))
	refused(t, x, m, at(math.MaxUint32-1, 0, 2, 1), api.ErrLate)
	evicts(t, x, m, at(2, 0, 2, 1), math.MaxUint32)
	evicts(t, x, m, at(3, 0, 2, 1), 0)
	evicts(t, x, m, at(4, 0, 2, 1), 1)
}

// P14.1: the oldest one goes wherever it stands in the order: first, in the middle, last.
func TestOldestAnywhere(t *testing.T) {
	for _, n := range []int{1, 2, 3, 4, 16} {
		for _, from := range []uint32{0, 500, math.MaxUint32 - 1, math.MaxUint32 - 15, 1 << 31} {
			for first := range n {
				all := run(from, n)
				order := append(slices.Clone(all[n-first:]), all[:n-first]...) // the oldest one stands at first
				x, m := filled(t, order...)
				refused(t, x, m, at(from-1, 0, 2, 1), api.ErrLate)
				for _, old := range all {
					evicts(t, x, m, at(old+uint32(n), 0, 2, 1), old)
				}
				slices.Reverse(order)
				x, m = filled(t, order...)
				for _, old := range all {
					evicts(t, x, m, at(old+100, 0, 2, 1), old)
				}
			}
		}
	}
}

// P14.1: of numbers that lie all over the round the oldest one hangs on their order.
func TestOldestInOrder(t *testing.T) {
	const third = 1 << 32 / 3
	evicted := map[uint32]bool{}
	for _, l := range [][]uint32{
		{0, third, 2 * third}, {0, 2 * third, third}, {third, 0, 2 * third}, {third, 2 * third, 0}, {2 * third, 0, third}, {2 * third, third, 0},
		{0, 1 << 31}, {1 << 31, 0}, {0, 1 << 31, 1}, {1 << 31, 1, 0}, {1, 1<<31 + 1, 1 << 30, 3 << 30},
	} {
		for _, seq := range []uint32{2, third - 1, third + 1, 2*third + 1, 1<<31 - 1, 1<<31 + 2, math.MaxUint32} {
			x, m := filled(t, l...)
			out, _ := put(t, x, m, at(seq, 0, 2, 1))
			if out.Evicted {
				evicted[out.Old] = true
			}
		}
	}
	if len(evicted) < 5 {
		t.Errorf("just %v went", evicted)
	}
	x, m := filled(t, 0, third, 2*third)
	evicts(t, x, m, at(2*third+1, 0, 2, 1), 2*third) // ahead of 0, which is ahead of a third
	x, m = filled(t, third, 2*third, 0)
	evicts(t, x, m, at(1, 0, 2, 1), 0) // ahead of a third, of which two thirds are not
}

// far: numbers that are none of versions, kinds or counts; among them some that a byte or 32 bits would tell as one that is.
func far() []int {
	return []int{math.MinInt, math.MinInt + 1, -1<<32 + 1, math.MinInt32, -256, -255, -2, -1, 0, 256, 257, 258, 259, 1 << 16, 1<<16 + 1, math.MaxInt32, 1 << 32, 1<<32 + 1, 1<<32 + 2, math.MaxInt - 1, math.MaxInt}
}

// bad: heads of a number that may not be, with the error of each.
func bad(seq uint32) map[head.Head]api.Errno {
	out := map[head.Head]api.Errno{}
	for _, n := range append(far(), 3) {
		out[head.Head{Version: n, Kind: 3, Seq: seq, Count: 2}] = api.ErrVersion
		out[head.Head{Version: n, Kind: n + 6, Seq: seq, Index: 9, Count: 2}] = api.ErrVersion
	}
	for _, n := range append(far(), 6) {
		out[head.Head{Version: 2, Kind: n, Seq: seq, Count: 2}] = api.ErrKind
		out[head.Head{Version: 1, Kind: n, Seq: seq, Index: 2, Count: 2}] = api.ErrKind
	}
	for _, n := range far() {
		out[head.Head{Version: 2, Kind: 3, Seq: seq, Count: n}] = api.ErrForm
		out[head.Head{Version: 2, Kind: 3, Seq: seq, Index: 1, Count: n}] = api.ErrForm
		if n != 0 {
			out[head.Head{Version: 2, Kind: 3, Seq: seq, Index: n, Count: 2}] = api.ErrForm
		}
	}
	out[head.Head{Version: 2, Kind: 3, Seq: seq, Index: 2, Count: 2}] = api.ErrForm
	out[head.Head{Version: 2, Kind: 3, Seq: seq, Index: 1, Count: 1}] = api.ErrForm
	out[head.Head{Version: 2, Kind: 3, Seq: seq, Index: 255, Count: 255}] = api.ErrForm
	return out
}

// P14.1: each error of a head, ahead of all else, in tables that are empty, not full and full, of numbers that have a slot, that are late and that are new.
func TestHeadErrors(t *testing.T) {
	empty, me := of(t, 1)
	some, ms := of(t, 3)
	kept(t, some, ms, at(5, 0, 2, 1), at(7, 1, 2, 1))
	full, mf := filled(t, 7, 5)
	for _, seq := range []uint32{5, 7, 4, 6, 9} {
		for h, e := range bad(seq) {
			for _, payload := range [][]byte{nil, {1}, row(193, 0)} {
				f := frame.Frame{Head: h, Payload: payload}
				refused(t, empty, me, f, e)
				refused(t, some, ms, f, e)
				refused(t, full, mf, f, e)
			}
		}
	}
	refused(t, empty, me, frame.Frame{}, api.ErrVersion)
}

// P14.1: several errors at once are told in their order, and a frame that is refused changes nothing.
func TestFirstError(t *testing.T) {
	other := at(7, 0, 2, 1)
	other.Head.Kind = 4
	version := at(7, 0, 2, 1)
	version.Head.Version = 1
	for _, y := range []struct {
		f frame.Frame
		e api.Errno
	}{
		{at(7, 3, 3), api.ErrForm},                     // a head that may not be, no payload, no mate
		{at(4, 2, 2), api.ErrForm},                     // and late
		{at(4, 2, 2, row(193, 0)...), api.ErrForm},     // and too many
		{at(7, 0, 3), api.ErrShort},                    // no payload, no mate
		{at(7, 1, 2), api.ErrShort},                    // no payload, twice
		{at(4, 0, 2), api.ErrShort},                    // no payload, late
		{at(9, 0, 2), api.ErrShort},                    // no payload, new
		{other, api.ErrMeet},                           // another kind
		{version, api.ErrMeet},                         // another version
		{at(7, 1, 3, row(193, 0)...), api.ErrMeet},     // no mate, too many
		{at(7, 1, 1<<7, row(192, 0)...), api.ErrMeet},  // no mate, too many with those that are there
		{at(7, 1, 2, row(193, 0)...), api.ErrTwice},    // twice, too many
		{at(7, 1, 2, row(192, 0)...), api.ErrTwice},    // twice, too many with those that are there
		{at(7, 0, 2, row(191, 0)...), api.ErrMany},     // too many with those that are there
		{at(4, 0, 2, row(193, 0)...), api.ErrMany},     // too many, late
		{at(4, 0, 1, row(193, 0)...), api.ErrMany},     // too many, late
		{at(9, 0, 2, row(193, 0)...), api.ErrMany},     // too many, where a slot would go
		{at(4, 0, 2, row(192, 0)...), api.ErrLate},     // just late
		{at(1<<31+5, 0, 2, 1), api.ErrLate},            // half a round away
		{at(math.MaxUint32, 254, 255, 1), api.ErrLate}, // far ahead
	} {
		x, m := filled(t, 6, 7, 5)
		refused(t, x, m, y.f, y.e)
		refused(t, x, m, y.f, y.e)
		evicts(t, x, m, at(8, 0, 2, 1), 5) // nothing went for it
		evicts(t, x, m, at(9, 0, 2, 1), 6)
		whole(t, x, m, at(7, 0, 2, 3), 3, 1, 7)
	}
}

// P14.1: a slot that is full goes, and its number may come again, as what goes is no longer there.
func TestAgain(t *testing.T) {
	for _, room := range []int{1, 2, 16} {
		x, m := of(t, room)
		for i := range 5 {
			h := head.Head{Version: 1 + i%2, Kind: 1 + i, Seq: 9, Count: 2} // another message each time
			kept(t, x, m, frameOf(h, i%2, byte(i)))
			refused(t, x, m, frameOf(h, i%2, byte(i)), api.ErrTwice)
			put(t, x, m, frameOf(h, 1-i%2, 7, 8))
			if x.Len() != 0 || x.Held() != 0 {
				t.Errorf("room %d: %d slots hold %d", room, x.Len(), x.Held())
			}
		}
	}
	x, m := filled(t, 5, 6, 7)
	whole(t, x, m, at(5, 1, 2, 4), 0, 5, 4)
	kept(t, x, m, at(3, 0, 2, 4)) // there is room
	evicts(t, x, m, at(5, 0, 2, 4), 3)
	refused(t, x, m, at(3, 0, 2, 4), api.ErrLate)
	if l := x.Seqs(); !slices.Equal(l, []uint32{6, 7, 5}) {
		t.Errorf("%v", l)
	}
	evicts(t, x, m, at(8, 0, 2, 4), 5) // the oldest one, which came last
	evicts(t, x, m, at(9, 0, 2, 4), 6)
}

// P14.2: Drop of each number that is there, and of ones that aren't; the others stand in their order, and there is room again.
func TestDrop(t *testing.T) {
	x, m := of(t, 3)
	for _, seq := range []uint32{0, 1, math.MaxUint32} {
		drops(t, x, m, seq, false)
	}
	for _, n := range []int{1, 2, 3, 16} {
		for i := range n {
			x, m := filled(t, run(math.MaxUint32, n)...)
			for _, seq := range []uint32{math.MaxUint32 - 1, uint32(n), 1 << 31} {
				drops(t, x, m, seq, false)
			}
			seq := math.MaxUint32 + uint32(i)
			drops(t, x, m, seq, true)
			drops(t, x, m, seq, false)
			kept(t, x, m, at(math.MaxUint32-1, 0, 2, 1)) // not late, for there is room
			evicts(t, x, m, at(100, 0, 2, 1), math.MaxUint32-1)
			drops(t, x, m, 100, true)
			kept(t, x, m, at(seq, 0, 3, 1)) // another message of that number
			for _, left := range m.seqs() {
				drops(t, x, m, left, true)
			}
			if x.Len() != 0 || x.Held() != 0 || len(x.Seqs()) > 0 {
				t.Errorf("%d slots hold %d: %v", x.Len(), x.Held(), x.Seqs())
			}
		}
	}
}

// spoil: puts other bytes over a list, its spare room and behind it.
func spoil(b []byte) {
	for i := range b[:cap(b)] {
		b[:cap(b)][i] = 99
	}
	_ = append(b, 99, 99, 99)
}

// The rules on memory: a payload is neither kept nor changed, nor its spare room, whether it is put, whole or refused.
func TestPayloadIsItsCallers(t *testing.T) {
	x, m := filled(t, 5, 6)
	for _, f := range []frame.Frame{at(7, 0, 3), at(7, 1, 3), at(7, 1, 3), at(3, 0, 2), at(8, 0, 1), at(7, 3, 3), at(7, 2, 3)} {
		spare := row(9, f.Head.Index)
		was := slices.Clone(spare)
		f.Payload = spare[:3]
		out, _ := put(t, x, m, f)
		if !bytes.Equal(spare, was) {
			t.Errorf("%s: changed to %v", frame.Line(f), spare)
		}
		body := slices.Clone(out.Body)
		spoil(spare[:3])
		is(t, "behind a payload that was changed", x, m)
		if !bytes.Equal(out.Body, body) {
			t.Errorf("%s: the body shares the payload's memory", frame.Line(f))
		}
	}
}

// The rules on memory: bodies are their caller's, who may change them and put to them, and so are the numbers that Seqs gives.
func TestAnswersAreNew(t *testing.T) {
	x, m := filled(t, 5, 6, 7)
	l := x.Seqs()
	for i := range l[:cap(l)] {
		l[:cap(l)][i] = 99
	}
	_ = append(l, 99)
	is(t, "when numbers were changed", x, m)
	payload := row(5, 0)
	f := at(9, 0, 1, payload...)
	one, _ := x.Put(f)
	m.put(f)
	spoil(one.Body)
	if !bytes.Equal(payload, row(5, 0)) {
		t.Error("a body shares its payload's memory")
	}
	other, _ := x.Put(f)
	m.put(f)
	if !bytes.Equal(other.Body, row(5, 0)) {
		t.Errorf("behind a body that was changed: %v", other)
	}
	last, _ := x.Put(at(7, 1, 2, 3)) // of two parts
	m.put(at(7, 1, 2, 3))
	if !bytes.Equal(last.Body, []byte{2, 7, 3}) {
		t.Errorf("%v", last)
	}
	spoil(last.Body)
	is(t, "when bodies were changed", x, m)
	kept(t, x, m, at(7, 1, 2, 3))
	whole(t, x, m, at(7, 0, 2, 1), 1, 3)
}

// P14.2: a slot that All gave is a copy: what is put to it is put to it alone, and what is put to the table isn't put to it.
func TestSlotsAreCopies(t *testing.T) {
	x, m := filled(t, 5, 6, 7)
	seq := x.All()
	var given []*slot.Slot
	for range 2 {
		i := 0
		for n, s := range seq {
			if s.Have() != 1 || s.Size() != 2 || s.Head().Seq != n {
				t.Fatalf("slot %d has %d, of %d bytes", n, s.Have(), s.Size())
			}
			f := frameOf(s.Head(), 1-i%2, 40, 41)
			if e := s.Put(f); e != api.OK || !s.Full() {
				t.Fatalf("slot %d: %d, full: %t", n, e, s.Full())
			}
			given = append(given, s)
			is(t, "when a slot that All gave was put to", x, m)
			i++
		}
	}
	if len(given) != 6 || given[0] == given[3] {
		t.Fatalf("%d slots", len(given))
	}
	whole(t, x, m, at(6, 0, 2, 3), 3, 1, 6)
	if b, ok := given[1].Bytes(); !ok || !bytes.Equal(b, []byte{40, 41, 1, 6}) {
		t.Errorf("a slot that was given: %v, %t", b, ok)
	}
	for _, s := range x.All() { // held while the table goes on
		given = append(given, s)
	}
	kept(t, x, m, at(9, 0, 3, 1))
	whole(t, x, m, at(5, 1, 2, 3), 0, 5, 3)
	if s := given[6]; s.Have() != 1 || s.Size() != 2 {
		t.Errorf("a slot that was given has %d, of %d bytes", s.Have(), s.Size())
	}
}

// given: what a ranging gives, left at most numbers; all of it at 0.
func given(seq func(func(uint32, *slot.Slot) bool), most int) []uint32 {
	var out []uint32
	for n := range seq {
		out = append(out, n)
		if len(out) == most {
			break
		}
	}
	return out
}

// P14.2: a ranging over All is left at each of its places, asks no further then, and gives the slots anew each time, also within a loop.
func TestAllIsRangedOver(t *testing.T) {
	for _, n := range []int{1, 2, 3, 16} {
		x, m := filled(t, run(math.MaxUint32-1, n)...)
		want, seq := m.seqs(), x.All()
		for most := 1; most <= n; most++ {
			if got := given(seq, most); !slices.Equal(got, want[:most]) {
				t.Errorf("%d slots, left at %d: %v", n, most, got)
			}
			asked := 0
			seq(func(uint32, *slot.Slot) bool {
				asked++
				return asked < most
			})
			if asked != most {
				t.Errorf("%d slots, left at %d: asked %d times", n, most, asked)
			}
			if got := given(seq, 0); !slices.Equal(got, want) {
				t.Errorf("%d slots, behind a loop that was left at %d: %v", n, most, got)
			}
		}
		outer := 0
		for seq1 := range seq {
			if seq1 != want[outer] {
				t.Errorf("%d slots: %d, with a loop in the loop", n, seq1)
			}
			outer++
			if got := given(seq, outer); !slices.Equal(got, want[:outer]) {
				t.Errorf("%d slots, a loop in the loop: %v", n, got)
			}
		}
		if outer != n {
			t.Errorf("%d slots: %d, with a loop in the loop", n, outer)
		}
		is(t, "behind rangings", x, m)
	}
	x, _ := of(t, 3)
	if x.All() == nil || len(given(x.All(), 0)) > 0 {
		t.Error("an empty table gives a slot")
	}
}

// P14.2: what All gives is of when it was called, also when the table is put to or dropped from ahead of the ranging, or within it.
func TestAllIsOfItsCall(t *testing.T) {
	for _, ahead := range []bool{true, false} {
		x, m := filled(t, 5, 6, 7)
		was, seq := m.copied(), x.All()
		changes := []func(){
			func() {
				drops(t, x, m, 6, true)
				kept(t, x, m, at(4, 0, 2, 1))
			},
			func() { evicts(t, x, m, at(9, 0, 2, 1), 4) },
			func() {
				whole(t, x, m, at(7, 1, 2, 1), 2, 7, 1)
				whole(t, x, m, at(5, 1, 2, 1), 0, 5, 1)
			},
		}
		if ahead {
			for _, change := range changes {
				change()
			}
		}
		for round := range 2 {
			i := 0
			for n, s := range seq {
				if n != was.slots[i].h.Seq {
					t.Fatalf("%d at %d, ahead: %t", n, i, ahead)
				}
				slotIs(t, "within a ranging", s, was.slots[i])
				if !ahead && round == 0 {
					changes[i]()
				}
				i++
			}
			if i != 3 {
				t.Fatalf("%d slots, ahead: %t", i, ahead)
			}
		}
		is(t, "behind the rangings", x, m)
		if !slices.Equal(x.Seqs(), []uint32{9}) {
			t.Errorf("%v, ahead: %t", x.Seqs(), ahead)
		}
	}
}

// states: tables of all makes, with their models: fresh ones, ones that aren't full, ones that are, and ones that slots went from.
func states(t *testing.T) ([]*table.Table, []*model) {
	t.Helper()
	var xs []*table.Table
	var ms []*model
	for _, room := range []int{1, 2, 3, 16} {
		for _, n := range []int{0, 1, room - 1, room, room + 1, 2 * room} {
			x, m := of(t, room)
			for i, seq := range run(math.MaxUint32, n) {
				put(t, x, m, at(seq, i%3, 3, row(1+i, i)...))
			}
			if n > room {
				drops(t, x, m, m.slots[room/2].h.Seq, true)
			}
			xs, ms = append(xs, x), append(ms, m)
		}
	}
	return xs, ms
}

// acts: things that are done to a table, of which each changes some.
func acts(t *testing.T, x *table.Table, m *model) []func() {
	frames := []frame.Frame{at(math.MaxUint32, 1, 3, 5), at(0, 0, 3, 5, 6), at(1, 2, 3, 7), at(40, 0, 2, 7), at(41, 0, 1, 9), at(40, 1, 2, 7)}
	var out []func()
	for _, f := range frames {
		out = append(out, func() { put(t, x, m, f) })
	}
	for _, seq := range []uint32{math.MaxUint32, 0, 3, 40} {
		out = append(out, func() { drops(t, x, m, seq, m.at(seq) >= 0) })
	}
	return out
}

// P14.2: a copy is the same, and what is put to it or dropped from it, or from the table that it was made from, is done to it alone.
func TestCopy(t *testing.T) {
	xs, ms := states(t)
	for i, x := range xs {
		m := ms[i]
		c, mc := x.Copy(), m.copied()
		is(t, "a copy", c, mc)
		cc, mcc := c.Copy(), mc.copied()
		for _, act := range acts(t, c, mc) {
			act()
			is(t, "a table whose copy was changed", x, m)
		}
		is(t, "a copy of a copy that was changed", cc, mcc)
		c, mc = x.Copy(), m.copied()
		for _, act := range acts(t, x, m) {
			act()
			is(t, "a copy whose table was changed", c, mc)
		}
		is(t, "a copy of a copy, when all else was changed", cc, mcc)
		back := acts(t, cc, mcc)
		for k, act := range acts(t, c, mc) { // both, in turn, one of them from behind
			act()
			back[len(back)-1-k]()
			is(t, "a copy", c, mc)
			is(t, "another copy", cc, mcc)
		}
	}
}

// P14.1: two tables are two.
func TestTwo(t *testing.T) {
	a, ma := of(t, 1)
	b, mb := of(t, 1)
	kept(t, a, ma, at(5, 0, 2, 1))
	is(t, "the other one", b, mb)
	kept(t, b, mb, at(5, 1, 2, 7))
	whole(t, a, ma, at(5, 1, 2, 2), 1, 2)
	is(t, "the other one", b, mb)
	whole(t, b, mb, at(5, 0, 2, 8), 8, 7)
}

// P14.1 to P14.3: all short rows of frames and drops, against the words.
func TestShortRows(t *testing.T) {
	var all []frame.Frame // one of no payload and the version 0 is a drop
	for _, seq := range []uint32{math.MaxUint32, 0, 1, 1 << 31} {
		all = append(all, at(seq, 0, 1, 1), at(seq, 0, 2, 2, 3), at(seq, 1, 2, 4), frame.Frame{Head: head.Head{Seq: seq}})
	}
	all = append(all, at(0, 1, 2, row(191, 0)...), at(0, 1, 3, 5), at(1, 0, 2, row(192, 0)...), at(1, 0, 2, row(193, 0)...), at(1, 1, 2), at(0, 2, 2, 5))
	act := func(x *table.Table, m *model, f frame.Frame) {
		if f.Head.Version == 0 {
			drops(t, x, m, f.Head.Seq, m.at(f.Head.Seq) >= 0)
			return
		}
		put(t, x, m, f)
	}
	for _, room := range []int{1, 2, 3} {
		for _, a := range all {
			for _, b := range all {
				x, m := of(t, room)
				act(x, m, a)
				act(x, m, b)
				for _, c := range all {
					x, m := x.Copy(), m.copied()
					act(x, m, c)
				}
			}
		}
	}
}

// chance: numbers that look like chance, the same each time.
type chance uint64

// below: the next one, below a bound.
func (c *chance) below(n int) int {
	*c = *c*6364136223846793005 + 1442695040888963407
	return int(uint64(*c) >> 33 % uint64(n))
}

// P14.1 to P14.3: long rows of frames and drops, against the words; there are never more slots than room, nor more than 192 bytes for each.
func TestLongRows(t *testing.T) {
	c := chance(1)
	for room := 1; room <= 16; room++ {
		for _, most := range []int{1, 5, 60, 200} { // bytes of a payload
			x, m := of(t, room)
			begin := uint32(c.below(40) - 300/(room+1))
			tells := map[api.Errno]int{}
			wholes, evicted := 0, 0
			for i := range 600 {
				seq := begin + uint32(i/4+c.below(2*room+2))
				count := 1 + int(seq%4)
				f := at(seq, c.below(count), count, row(c.below(most+1), c.below(256))...)
				switch c.below(40) {
				case 0:
					f.Head.Kind = c.below(7)
				case 1:
					f.Head.Count = c.below(300)
				case 2:
					drops(t, x, m, seq, m.at(seq) >= 0)
				case 3:
					x = x.Copy()
				case 4:
					f.Head.Seq += uint32(c.below(4)) << 30
				}
				out, e := put(t, x, m, f)
				tells[e]++
				if out.Whole {
					wholes++
				}
				if out.Evicted {
					evicted++
				}
			}
			if wholes == 0 || evicted == 0 || tells[api.ErrTwice] == 0 || tells[api.ErrLate] == 0 {
				t.Errorf("room %d, payloads of %d at most: %d whole, %d evicted, %v", room, most, wholes, evicted, tells)
			}
		}
	}
}

// P14.1: bodies of many fragments, in whatever order they come, and beside others'; those of more than 192 places are never full.
func TestBodies(t *testing.T) {
	c := chance(3)
	for _, y := range [][2]int{{1, 1}, {7, 3}, {192, 1}, {191, 2}, {192, 48}, {192, 192}} {
		x, m := of(t, 3)
		var all []frame.Frame
		bodies := map[uint32][]byte{}
		for _, seq := range []uint32{math.MaxUint32, 0, 1} {
			bodies[seq] = row(y[0], int(seq))
			l, e := cut.Frames(head.Head{Version: 1, Kind: 5, Seq: seq}, bodies[seq], y[1])
			if e != api.OK {
				t.Fatal(e)
			}
			all = append(all, l...)
		}
		for len(all) > 0 {
			i := c.below(len(all))
			out, e := put(t, x, m, all[i])
			seq := all[i].Head.Seq
			if e != api.OK || out.Evicted || out.Whole && !bytes.Equal(out.Body, bodies[seq]) {
				t.Fatalf("%d bytes by %d: %v, %d", y[0], y[1], out, e)
			}
			if out.Whole {
				delete(bodies, seq)
			}
			all = slices.Delete(all, i, i+1)
		}
		if len(bodies) > 0 || x.Len() > 0 {
			t.Errorf("%d bytes by %d: %d bodies didn't come whole", y[0], y[1], len(bodies))
		}
	}
	x, m := of(t, 2)
	for i := range 193 {
		want := api.OK
		if i == 192 {
			want = api.ErrMany
		}
		refused(t, x, m, at(5, i, 193, byte(i)), want)
	}
	if x.Len() != 1 || x.Held() != 192 {
		t.Errorf("%d slots hold %d", x.Len(), x.Held())
	}
	drops(t, x, m, 5, true)
}

// P14.3: a nil table answers each call, and stays nil.
func TestNil(t *testing.T) {
	var x *table.Table
	for range 2 {
		for _, f := range []frame.Frame{{}, at(5, 0, 1, 1), at(5, 0, 2, 1), at(5, 0, 1), at(5, 2, 2, 1), at(5, 0, 1, row(193, 0)...)} {
			if out, e := x.Put(f); e != api.ErrArg || !same(out, table.Out{}) {
				t.Errorf("nil: Put(%s): %v, %d", frame.Line(f), out, e)
			}
		}
		for _, seq := range []uint32{0, 5, math.MaxUint32} {
			if x.Drop(seq) {
				t.Errorf("nil: Drop(%d)", seq)
			}
		}
		if l := x.Seqs(); len(l) > 0 || x.Held() != 0 || x.Len() != 0 || x.Room() != 0 {
			t.Errorf("nil: %v, %d, %d, %d", l, x.Held(), x.Len(), x.Room())
		}
		all := x.All()
		if all == nil {
			t.Fatal("nil: All is nil")
		}
		if got := given(all, 0); len(got) > 0 {
			t.Errorf("nil: %v", got)
		}
		if x.Copy() != nil {
			t.Error("nil: a copy")
		}
	}
}
