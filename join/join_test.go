package join_test

import (
	"bytes"
	"iter"
	"maps"
	"math"
	"slices"
	"testing"

	"cuneiform/api"
	"cuneiform/cut"
	"cuneiform/frame"
	"cuneiform/head"
	"cuneiform/join"
	"cuneiform/slot"
	"cuneiform/table"
)

const (
	last = math.MaxUint32 // the greatest number
	half = 1 << 31
)

// places: a slot as the words say it: a head with the index 0, and a payload, or none, at each place.
type places struct {
	h   head.Head
	has [][]byte
}

// model: a joiner as the words say it: of a window the top, and those of its 64 that have come; of a table the room, and the slots in order.
type model struct {
	top   uint32
	came  map[uint32]bool
	room  int
	slots []*places
}

// pair: what Waiting gives at once.
type pair struct {
	seq   uint32
	lacks int
}

// wrong: what is wrong with a head, by the words.
func wrong(h head.Head) api.Errno {
	switch {
	case h.Version != 1 && h.Version != 2:
		return api.ErrVersion
	case h.Kind < 1 || h.Kind > 5:
		return api.ErrKind
	case h.Count < 1 || h.Count > 255 || h.Index < 0 || h.Index > h.Count-1:
		return api.ErrForm
	}
	return api.OK
}

// after: is b after a, by the words: from 1 to 2^31 - 1 steps lead from a to b.
func after(a, b uint32) bool { return b != a && b-a < half }

func (s *places) bytes() []byte { return slices.Concat(s.has...) }

// missing: the places that are empty.
func (s *places) missing() []int {
	var out []int
	for i, p := range s.has {
		if p == nil {
			out = append(out, i)
		}
	}
	return out
}

// put: what the slot tells of a frame whose head may be, with a payload; it is put where that is OK.
func (s *places) put(f frame.Frame) api.Errno {
	a, b := s.h, f.Head
	switch {
	case a.Version != b.Version || a.Kind != b.Kind || a.Seq != b.Seq || a.Count != b.Count:
		return api.ErrMeet
	case s.has[b.Index] != nil:
		return api.ErrTwice
	case len(s.bytes())+len(f.Payload) > 192:
		return api.ErrMany
	}
	s.has[b.Index] = append([]byte{}, f.Payload...)
	return api.OK
}

// newModel: all 64 have come, and the top is the one ahead of start.
func newModel(start uint32, room int) *model {
	m := &model{top: start - 1, came: map[uint32]bool{}, room: room}
	for i := range uint32(64) {
		m.came[m.top-i] = true
	}
	return m
}

// look: what the window tells of a number.
func (m *model) look(n uint32) api.Errno {
	switch {
	case after(m.top, n):
		return api.OK
	case m.top-n > 63:
		return api.ErrOld
	case m.came[n]:
		return api.ErrSeen
	}
	return api.OK
}

// bits: those that have come, by how many they are ahead of the top.
func (m *model) bits() uint64 {
	var out uint64
	for n := range m.came {
		out += 1 << (m.top - n)
	}
	return out
}

// at: where the slot of a number stands; -1 without one.
func (m *model) at(seq uint32) int {
	return slices.IndexFunc(m.slots, func(s *places) bool { return s.h.Seq == seq })
}

// oldest: where the oldest one of the numbers stands: from the left, each that is ahead of the one that was taken is taken.
func (m *model) oldest() int {
	at := 0
	for i, s := range m.slots {
		if after(s.h.Seq, m.slots[at].h.Seq) {
			at = i
		}
	}
	return at
}

// put: what the table tells of a frame whose head may be.
func (m *model) put(f frame.Frame) (table.Out, api.Errno) {
	var out table.Out
	if len(f.Payload) == 0 {
		return out, api.ErrShort
	}
	at := m.at(f.Head.Seq)
	switch {
	case at >= 0:
		if e := m.slots[at].put(f); e != api.OK {
			return out, e
		}
	case len(f.Payload) > 192:
		return out, api.ErrMany
	default:
		if len(m.slots) == m.room {
			old := m.oldest()
			seq := m.slots[old].h.Seq
			if !after(seq, f.Head.Seq) {
				return out, api.ErrLate
			}
			m.slots = slices.Delete(m.slots, old, old+1)
			out.Evicted, out.Old = true, seq
		}
		h := f.Head
		h.Index = 0
		at = len(m.slots)
		m.slots = append(m.slots, &places{h, make([][]byte, h.Count)})
		m.slots[at].put(f)
	}
	if s := m.slots[at]; len(s.missing()) == 0 {
		out.Whole, out.Body = true, s.bytes()
		m.slots = slices.Delete(m.slots, at, at+1)
	}
	return out, api.OK
}

// take: what P15.1 has to tell of a frame.
func (m *model) take(f frame.Frame) (table.Out, api.Errno) {
	if e := wrong(f.Head); e != api.OK {
		return table.Out{}, e
	}
	if e := m.look(f.Head.Seq); e != api.OK {
		return table.Out{}, e
	}
	return m.put(f)
}

// done: what P15.1 has to tell of a number.
func (m *model) done(n uint32) api.Errno {
	e := m.look(n)
	if e != api.OK {
		return e
	}
	if after(m.top, n) {
		m.top = n
	}
	m.came[n] = true
	maps.DeleteFunc(m.came, func(n uint32, _ bool) bool { return m.top-n > 63 })
	m.drop(n)
	return e
}

// drop: likewise.
func (m *model) drop(seq uint32) bool {
	at := m.at(seq)
	if at >= 0 {
		m.slots = slices.Delete(m.slots, at, at+1)
	}
	return at >= 0
}

func (m *model) seqs() []uint32 {
	var out []uint32
	for _, s := range m.slots {
		out = append(out, s.h.Seq)
	}
	return out
}

func (m *model) held() int {
	n := 0
	for _, s := range m.slots {
		n += len(s.bytes())
	}
	return n
}

func (m *model) waiting() []pair {
	var out []pair
	for _, s := range m.slots {
		out = append(out, pair{s.h.Seq, len(s.missing())})
	}
	return out
}

func (m *model) copied() *model {
	c := &model{m.top, maps.Clone(m.came), m.room, nil}
	for _, s := range m.slots {
		has := make([][]byte, len(s.has))
		for i, p := range s.has {
			has[i] = slices.Clone(p)
		}
		c.slots = append(c.slots, &places{s.h, has})
	}
	return c
}

// given: the first so many that a ranging gives; all of them at 0.
func given(seq iter.Seq2[uint32, int], most int) []pair {
	var out []pair
	for n, lacks := range seq {
		out = append(out, pair{n, lacks})
		if len(out) == most {
			break
		}
	}
	return out
}

// slotIs: whether a slot is as the words say. It is filled to look at its bytes, for a copy may be.
func slotIs(t *testing.T, what string, s *slot.Slot, want *places) {
	t.Helper()
	missing := want.missing()
	if s.Head() != want.h || s.Size() != len(want.bytes()) || !slices.Equal(slices.Collect(s.Missing()), missing) {
		t.Fatalf("%s: the slot of %v has %d bytes, not as %v", what, s.Head(), s.Size(), want)
	}
	if len(want.bytes())+len(missing) > 192 {
		return
	}
	var whole []byte
	for i, p := range want.has {
		if p == nil {
			p = []byte{0}
			s.Put(frameOf(want.h, i, p...))
		}
		whole = append(whole, p...)
	}
	if b, ok := s.Bytes(); !ok || !bytes.Equal(b, whole) {
		t.Fatalf("%s: the slot of %v, filled, is %v, not %v", what, want.h, b, whole)
	}
}

// tableIs: whether a table that a joiner gave is as the words say.
func tableIs(t *testing.T, what string, x *table.Table, m *model) {
	t.Helper()
	if x.Room() != m.room || x.Len() != len(m.slots) || x.Held() != m.held() || !slices.Equal(x.Seqs(), m.seqs()) {
		t.Fatalf("%s: the table's room %d, numbers %v, holding %d; not %d, %v, %d", what, x.Room(), x.Seqs(), x.Held(), m.room, m.seqs(), m.held())
	}
	i := 0
	for _, s := range x.All() {
		slotIs(t, what, s, m.slots[i])
		i++
	}
}

// is: whether each call tells of a joiner what the words say of it.
func is(t *testing.T, what string, j *join.Joiner, m *model) {
	t.Helper()
	if w := j.Window(); w.Top() != m.top || w.Bits() != m.bits() {
		t.Fatalf("%s: the window's top %d, bits %x, not %d, %x", what, w.Top(), w.Bits(), m.top, m.bits())
	}
	if j.Held() != m.held() {
		t.Fatalf("%s: holds %d, not %d", what, j.Held(), m.held())
	}
	if got := given(j.Waiting(), 0); !slices.Equal(got, m.waiting()) {
		t.Fatalf("%s: waiting %v, not %v", what, got, m.waiting())
	}
	tableIs(t, what, j.Table(), m)
}

// of: a joiner of a start and a room, and its model.
func of(t *testing.T, start uint32, room int) (*join.Joiner, *model) {
	t.Helper()
	j, e := join.New(start, room)
	if e != api.OK || j == nil {
		t.Fatalf("New(%d, %d): %v, %d", start, room, j, e)
	}
	return j, newModel(start, room)
}

// same: are two answers?
func same(a, b table.Out) bool {
	return bytes.Equal(a.Body, b.Body) && a.Whole == b.Whole && a.Evicted == b.Evicted && a.Old == b.Old
}

// take: whether Take tells what the words do, and each call what it has to behind it.
func take(t *testing.T, j *join.Joiner, m *model, f frame.Frame) (table.Out, api.Errno) {
	t.Helper()
	what := frame.Line(f)
	out, e := j.Take(f)
	want, we := m.take(f)
	if !same(out, want) || e != we {
		t.Fatalf("%s, at the top %d, %v: %v, %d, not %v, %d", what, m.top, m.waiting(), out, e, want, we)
	}
	is(t, "behind "+what, j, m)
	return out, e
}

// answers: whether Take tells just this.
func answers(t *testing.T, j *join.Joiner, m *model, f frame.Frame, want table.Out, we api.Errno) {
	t.Helper()
	if out, e := take(t, j, m, f); !same(out, want) || e != we {
		t.Fatalf("%s, by the words: %v, %d, not %v, %d", frame.Line(f), out, e, want, we)
	}
}

// refused: whether Take tells this error.
func refused(t *testing.T, j *join.Joiner, m *model, f frame.Frame, want api.Errno) {
	t.Helper()
	answers(t, j, m, f, table.Out{}, want)
}

// kept: whether Take takes frames, and nothing else comes of them.
func kept(t *testing.T, j *join.Joiner, m *model, l ...frame.Frame) {
	t.Helper()
	for _, f := range l {
		answers(t, j, m, f, table.Out{}, api.OK)
	}
}

// evicts: whether Take takes a frame, and this number's slot goes for it.
func evicts(t *testing.T, j *join.Joiner, m *model, f frame.Frame, old uint32) {
	t.Helper()
	answers(t, j, m, f, table.Out{Evicted: true, Old: old}, api.OK)
}

// whole: whether Take takes a frame, which is the last one of this body.
func whole(t *testing.T, j *join.Joiner, m *model, f frame.Frame, body ...byte) {
	t.Helper()
	answers(t, j, m, f, table.Out{Whole: true, Body: body}, api.OK)
}

// did: calls Done, and tells whether its answer is what the words say, and each call's behind it.
func did(t *testing.T, j *join.Joiner, m *model, seq uint32) api.Errno {
	t.Helper()
	top := m.top
	got, want := j.Done(seq), m.done(seq)
	if got != want {
		t.Fatalf("Done(%d), at the top %d: %d, not %d", seq, top, got, want)
	}
	is(t, "behind Done", j, m)
	return got
}

// done: whether Done tells this of a number.
func done(t *testing.T, j *join.Joiner, m *model, seq uint32, want api.Errno) {
	t.Helper()
	if got := did(t, j, m, seq); got != want {
		t.Fatalf("Done(%d), by the words: %d, not %d", seq, got, want)
	}
}

// drops: whether Drop tells this of a number, and each call what it has to behind it.
func drops(t *testing.T, j *join.Joiner, m *model, seq uint32, want bool) {
	t.Helper()
	if got := m.drop(seq); got != want {
		t.Fatalf("Drop(%d), by the words: %t", seq, got)
	}
	if got := j.Drop(seq); got != want {
		t.Fatalf("Drop(%d): %t", seq, got)
	}
	is(t, "behind a drop", j, m)
}

// frameOf: a mate of a head, with this index.
func frameOf(h head.Head, index int, payload ...byte) frame.Frame {
	h.Index = index
	return frame.Frame{Head: h, Payload: payload}
}

// at: a frame of a number.
func at(seq uint32, index, count int, payload ...byte) frame.Frame {
	return frame.Frame{Head: head.Head{Version: 2, Kind: 3, Seq: seq, Index: index, Count: count}, Payload: payload}
}

// row: n bytes that are told apart from those of another length, or begun otherwise.
func row(n, begin int) []byte {
	out := make([]byte, n)
	for i := range out {
		out[i] = byte(begin + i*7 + n)
	}
	return out
}

// run: n numbers from one on.
func run(from uint32, n int) []uint32 {
	var out []uint32
	for i := range n {
		out = append(out, from+uint32(i))
	}
	return out
}

// filled: a joiner that is just full, with a fragment of each of these numbers, of 2. It begins at the start.
func filled(t *testing.T, start uint32, seqs ...uint32) (*join.Joiner, *model) {
	t.Helper()
	j, m := of(t, start, len(seqs))
	for i, seq := range seqs {
		kept(t, j, m, at(seq, i%2, 2, byte(i), byte(seq)))
	}
	return j, m
}

// starts: those at which something may turn.
func starts() []uint32 {
	return []uint32{0, 1, 5, 62, 63, 64, 65, 1000, half - 64, half - 1, half, half + 1, half + 64, last - 65, last - 64, last - 63, last - 1, last}
}

// far: numbers that are none of versions, kinds, counts or rooms; among them some that a byte or 32 bits would tell as one that is.
func far() []int {
	return []int{math.MinInt, math.MinInt + 1, -1<<32 + 1, math.MinInt32, -256, -255, -2, -1, 0, 256, 257, 258, 1<<16 + 1, math.MaxInt32, 1<<32 + 1, math.MaxInt - 1, math.MaxInt}
}

// P15.1: the chapter's example.
func TestExample(t *testing.T) {
	j, m := of(t, 5, 2)
	whole(t, j, m, at(5, 0, 1, 9), 9)
	done(t, j, m, 5, api.OK)
	refused(t, j, m, at(5, 0, 1, 9), api.ErrSeen)
}

// P15.1: rooms from 1 to 16 may be, and none outside, whatever the start.
func TestNew(t *testing.T) {
	for _, start := range starts() {
		for room := 1; room <= 16; room++ {
			j, m := of(t, start, room)
			is(t, "fresh", j, m)
			if w := j.Window(); w.Top() != start-1 || w.Bits() != math.MaxUint64 || j.Table().Room() != room || j.Held() != 0 {
				t.Errorf("New(%d, %d): top %d, bits %x, room %d, holds %d", start, room, w.Top(), w.Bits(), j.Table().Room(), j.Held())
			}
		}
		for _, room := range append(far(), 17, 18, 255) {
			if j, e := join.New(start, room); j != nil || e != api.ErrRange {
				t.Errorf("New(%d, %d): %v, %d", start, room, j, e)
			}
		}
	}
}

// P15.1: as many messages wait as there is room for; then the oldest one goes for each, and what isn't after it is late.
func TestRooms(t *testing.T) {
	for _, room := range []int{1, 2, 15, 16} {
		for _, start := range []uint32{0, 7, last - 7, last} {
			j, m := of(t, start, room)
			for _, seq := range run(start, room) {
				kept(t, j, m, at(seq, 1, 2, byte(seq), 1))
			}
			for _, seq := range run(start, 2*room) {
				evicts(t, j, m, at(seq+uint32(room), 0, 3, byte(seq)), seq)
				refused(t, j, m, at(seq, 0, 2, 1), api.ErrLate)
			}
			if w := j.Window(); w.Top() != start-1 || w.Bits() != math.MaxUint64 {
				t.Errorf("the window's top %d, bits %x: frames came to it", w.Top(), w.Bits())
			}
		}
	}
}

// P15.1: what the window tells of a number is told of a frame and of Done alike: at the top and about it, and half a round away.
func TestNumbers(t *testing.T) {
	for _, start := range starts() {
		for _, further := range []uint32{0, 1, 2, 63, 64, 65, 1000} { // how far Done has brought the top
			for _, y := range []struct {
				ahead uint32
				e     api.Errno
			}{
				{0, api.ErrSeen}, {1, api.ErrSeen}, {62, api.ErrSeen}, {63, api.ErrSeen}, {64, api.ErrOld}, {65, api.ErrOld}, {1000, api.ErrOld},
				{half - 1, api.ErrOld}, {half, api.ErrOld}, {half + 1, api.OK}, {half + 2, api.OK}, {last - 63, api.OK}, {last - 1, api.OK}, {last, api.OK},
			} {
				j, m := of(t, start, 2)
				if further > 0 {
					done(t, j, m, start-1+further, api.OK)
				}
				top := start - 1 + further
				if y.ahead > 0 && y.ahead < 64 && y.ahead < further {
					y.e = api.OK // between the start and the top nothing has come
				}
				c, mc := j.Copy(), m.copied()
				done(t, c, mc, top-y.ahead, y.e)
				if y.e != api.OK {
					refused(t, j, m, at(top-y.ahead, 0, 1, 1), y.e)
					refused(t, j, m, at(top-y.ahead, 0, 2, 1), y.e)
					continue
				}
				whole(t, j, m, at(top-y.ahead, 0, 1, 1), 1)
				kept(t, j, m, at(top-y.ahead, 0, 2, 1))
				done(t, j, m, top-y.ahead, api.OK)
				refused(t, j, m, at(top-y.ahead, 1, 2, 1), api.ErrSeen)
			}
		}
	}
}

// P15.1: a number comes to the window only when it is told so: a body that is whole may come again till then, and moves no top.
func TestWholeIsNotDone(t *testing.T) {
	j, m := of(t, 5, 2)
	for i := range 3 {
		kept(t, j, m, at(9, 1, 2, 7))
		refused(t, j, m, at(9, 1, 2, 7), api.ErrTwice)
		whole(t, j, m, at(9, 0, 2, byte(i)), byte(i), 7)
		whole(t, j, m, at(7, 0, 1, byte(i)), byte(i))
	}
	if w := j.Window(); w.Top() != 4 || w.Bits() != math.MaxUint64 {
		t.Errorf("the top is %d, the bits %x", w.Top(), w.Bits())
	}
	done(t, j, m, 9, api.OK)
	for i := range 2 {
		refused(t, j, m, at(9, i, 2, 7), api.ErrSeen)
	}
	whole(t, j, m, at(7, 0, 1, 1), 1)
	done(t, j, m, 7, api.OK)
	refused(t, j, m, at(7, 0, 1, 1), api.ErrSeen)
	if w := j.Window(); w.Top() != 9 || !slices.Equal(w.Missing(), []uint32{5, 6, 8}) {
		t.Errorf("the top is %d, and %v miss", w.Top(), w.Missing())
	}
}

// bad: heads of a number that may not be, with the error of each.
func bad(seq uint32) map[head.Head]api.Errno {
	out := map[head.Head]api.Errno{}
	for _, n := range append(far(), 3) {
		out[head.Head{Version: n, Kind: 3, Seq: seq, Count: 2}] = api.ErrVersion
		out[head.Head{Version: n, Kind: n + 6, Seq: seq, Index: 9, Count: 2}] = api.ErrVersion
	}
	for _, n := range append(far(), 6) {
		out[head.Head{Version: 2, Kind: n, Seq: seq, Count: 2}] = api.ErrKind
		out[head.Head{Version: 1, Kind: n, Seq: seq, Index: 2, Count: 2}] = api.ErrKind
	}
	for _, n := range far() {
		out[head.Head{Version: 2, Kind: 3, Seq: seq, Count: n}] = api.ErrForm
		if n != 0 {
			out[head.Head{Version: 2, Kind: 3, Seq: seq, Index: n, Count: 2}] = api.ErrForm
		}
	}
	out[head.Head{Version: 2, Kind: 3, Seq: seq, Index: 2, Count: 2}] = api.ErrForm
	out[head.Head{Version: 2, Kind: 3, Seq: seq, Index: 255, Count: 255}] = api.ErrForm
	return out
}

// P15.1: each error of a head, ahead of all else, of numbers that are old, seen, waiting, new and late.
func TestHeadErrors(t *testing.T) {
	empty, me := of(t, 100, 1)
	full, mf := filled(t, 100, 107, 105)
	done(t, full, mf, 108, api.OK)
	for _, seq := range []uint32{20, 99, 108, 105, 104, 109, 108 + half} {
		for h, e := range bad(seq) {
			for _, payload := range [][]byte{nil, {1}, row(193, 0)} {
				f := frame.Frame{Head: h, Payload: payload}
				refused(t, empty, me, f, e)
				refused(t, full, mf, f, e)
			}
		}
	}
	refused(t, empty, me, frame.Frame{}, api.ErrVersion)
}

// P15.1: several errors at once are told in their order: the head's, the window's, the table's. A frame that is refused changes nothing.
func TestFirstError(t *testing.T) {
	other := at(107, 0, 2, 1)
	other.Head.Kind = 4
	for _, y := range []struct {
		f frame.Frame
		e api.Errno
	}{
		{at(99, 3, 3), api.ErrForm},                  // a head that may not be, seen, no payload
		{at(40, 2, 2, row(193, 0)...), api.ErrForm},  // and old, too many
		{at(107, 3, 3), api.ErrForm},                 // and no mate
		{at(99, 0, 2), api.ErrSeen},                  // seen, no payload
		{at(99, 0, 2, row(193, 0)...), api.ErrSeen},  // seen, too many
		{at(99, 0, 1, 1), api.ErrSeen},               // seen, late
		{at(109, 0, 2, 1), api.ErrSeen},              // the top
		{at(46, 0, 2, 1), api.ErrSeen},               // the last one that is seen
		{at(45, 0, 2, 1), api.ErrOld},                // the first one that is old
		{at(45, 0, 2), api.ErrOld},                   // old, no payload
		{at(45, 0, 2, row(193, 0)...), api.ErrOld},   // old, too many
		{at(109+half, 0, 2), api.ErrOld},             // half a round away, no payload
		{at(107, 0, 3), api.ErrShort},                // no payload, no mate
		{at(107, 1, 2), api.ErrShort},                // no payload, twice
		{at(104, 0, 2), api.ErrShort},                // no payload, late
		{at(110, 0, 2), api.ErrShort},                // no payload, new
		{other, api.ErrMeet},                         // another kind
		{at(107, 1, 3, row(193, 0)...), api.ErrMeet}, // no mate, too many
		{at(107, 1, 2, row(193, 0)...), api.ErrTwice},
		{at(107, 0, 2, row(191, 0)...), api.ErrMany}, // too many with those that are there
		{at(104, 0, 2, row(193, 0)...), api.ErrMany}, // too many, late
		{at(110, 0, 2, row(193, 0)...), api.ErrMany}, // too many, where a slot would go
		{at(104, 0, 2, row(192, 0)...), api.ErrLate},
		{at(100, 0, 1, 1), api.ErrLate},
	} {
		j, m := filled(t, 100, 106, 107, 105)
		done(t, j, m, 109, api.OK)
		refused(t, j, m, y.f, y.e)
		refused(t, j, m, y.f, y.e)
		evicts(t, j, m, at(108, 0, 2, 1), 105) // nothing went for it
		evicts(t, j, m, at(110, 0, 2, 1), 106)
		whole(t, j, m, at(107, 0, 2, 3), 3, 1, 107)
	}
}

// P15.1: Done of a number whose slot is there: the slot goes, whether the number lies at the window's end, within it or past its top, and the others stand in their order.
func TestDoneOfSlot(t *testing.T) {
	for _, n := range []int{1, 2, 3, 16} {
		for _, start := range []uint32{0, 30, last - 8, last} {
			for i := range n {
				for _, ahead := range []uint32{0, 1, 40, 63} { // of the top
					all := run(start, n)
					j, m := filled(t, start, all...)
					if top := all[i] + ahead; ahead > 0 {
						did(t, j, m, top) // its slot goes too, if there is one
					}
					done(t, j, m, all[i], api.OK)
					if slices.Contains(j.Table().Seqs(), all[i]) {
						t.Fatalf("the slot of %d is there behind Done", all[i])
					}
					refused(t, j, m, at(all[i], 1-i%2, 2, 1), api.ErrSeen)
					done(t, j, m, all[i], api.ErrSeen)
				}
			}
		}
	}
}

// P15.1: Done of a number without a slot: the window has it, and no slot goes; an error of Done lets each slot stand, its own number's too.
func TestDoneWithoutSlot(t *testing.T) {
	j, m := filled(t, 100, 100, 102, 104)
	was := m.waiting()
	done(t, j, m, 101, api.OK)
	done(t, j, m, 101, api.ErrSeen)
	done(t, j, m, 99, api.ErrSeen)
	done(t, j, m, 38, api.ErrSeen)
	done(t, j, m, 37, api.ErrOld)
	done(t, j, m, 101+half, api.ErrOld)
	done(t, j, m, 165, api.OK) // from now on 100 and 101 are old, and 102 is the oldest of the 64
	done(t, j, m, 100, api.ErrOld)
	done(t, j, m, 101, api.ErrOld)
	if got := given(j.Waiting(), 0); !slices.Equal(got, was) {
		t.Errorf("%v wait, not %v", got, was)
	}
	refused(t, j, m, at(100, 1, 2, 1), api.ErrOld) // its slot is there, but the window is asked first
	done(t, j, m, 102, api.OK)
	done(t, j, m, 102, api.ErrSeen)
	done(t, j, m, 1000, api.OK)
	done(t, j, m, 104, api.ErrOld)
	if got := given(j.Waiting(), 0); !slices.Equal(got, []pair{{100, 1}, {104, 1}}) || j.Held() != 4 {
		t.Errorf("%v wait, %d bytes", got, j.Held())
	}
	kept(t, j, m, at(1001, 0, 2, 1))
	evicts(t, j, m, at(1002, 0, 2, 1), 100) // a slot that is too old goes at last
	drops(t, j, m, 104, true)
}

// P15.1: Drop of a number that is there, and of ones that aren't, changes no window; a frame of a number that was dropped is taken again, one of a number that is done isn't.
func TestDrop(t *testing.T) {
	for _, n := range []int{1, 2, 3, 16} {
		for i := range n {
			j, m := filled(t, last, run(last, n)...)
			top, bits := j.Window().Top(), j.Window().Bits()
			for _, seq := range []uint32{last - 1, uint32(n), half} {
				drops(t, j, m, seq, false)
			}
			seq := last + uint32(i)
			drops(t, j, m, seq, true)
			drops(t, j, m, seq, false)
			if w := j.Window(); w.Top() != top || w.Bits() != bits {
				t.Fatalf("Drop(%d): the window's top %d, bits %x, not %d, %x", seq, w.Top(), w.Bits(), top, bits)
			}
			kept(t, j, m, at(seq, 2, 3, 1)) // another message of that number
			drops(t, j, m, seq, true)
			whole(t, j, m, at(seq, 0, 1, 1), 1)
			done(t, j, m, seq, api.OK)
			drops(t, j, m, seq, false)
			refused(t, j, m, at(seq, 2, 3, 1), api.ErrSeen)
			for _, left := range m.seqs() {
				drops(t, j, m, left, true)
			}
		}
	}
	j, m := filled(t, 5, 5, 6)
	done(t, j, m, 100, api.OK)
	drops(t, j, m, 5, true) // old, and there
	refused(t, j, m, at(5, 0, 2, 1), api.ErrOld)
}

// P15.1: whether the slot of a number goes by Drop, for another one or as it is whole, its number is new till Done.
func TestGoneIsNew(t *testing.T) {
	j, m := of(t, 5, 1)
	kept(t, j, m, at(5, 0, 2, 1))
	evicts(t, j, m, at(6, 0, 2, 1), 5)
	refused(t, j, m, at(5, 0, 2, 1), api.ErrLate)
	drops(t, j, m, 6, true)
	kept(t, j, m, at(5, 0, 2, 2))
	answers(t, j, m, at(6, 0, 1, 1), table.Out{Whole: true, Body: []byte{1}, Evicted: true, Old: 5}, api.OK)
	done(t, j, m, 6, api.OK)
	kept(t, j, m, at(5, 1, 2, 3))
	whole(t, j, m, at(5, 0, 2, 2), 2, 3)
	done(t, j, m, 5, api.OK)
	refused(t, j, m, at(5, 0, 2, 2), api.ErrSeen)
	refused(t, j, m, at(6, 0, 1, 2), api.ErrSeen)
}

// P15.3: behind Done of a number no frame of it is taken any more, however the top goes on, less than 2^31 further.
func TestNoneBehindDone(t *testing.T) {
	for _, seq := range []uint32{0, 5, half - 1, half, last - 1, last} {
		for _, ways := range [][]uint32{{1}, {63}, {64}, {65}, {1000}, {half - 2}, {half - 1}, {1, 62, 1, 1}, {1 << 30, 1<<30 - 2, 1}, {half - 65, 1, 63}} {
			j, m := of(t, seq, 2)
			kept(t, j, m, at(seq, 0, 2, 1))
			done(t, j, m, seq, api.OK)
			for _, way := range ways {
				for i := range 2 {
					if _, e := take(t, j, m, at(seq, i, 2, 1)); e != api.ErrSeen && e != api.ErrOld {
						t.Fatalf("a frame of %d, which is done, at the top %d: %d", seq, m.top, e)
					}
				}
				done(t, j, m, m.top+way, api.OK)
			}
			if _, e := take(t, j, m, at(seq, 0, 1, 1)); e != api.ErrSeen && e != api.ErrOld {
				t.Fatalf("a frame of %d, which is done, at the top %d: %d", seq, m.top, e)
			}
		}
	}
}

// spoil: puts other bytes over a list, its spare room and behind it.
func spoil(b []byte) {
	for i := range b[:cap(b)] {
		b[:cap(b)][i] = 99
	}
	_ = append(b, 99, 99, 99)
}

// The rules on memory: a payload is neither kept nor changed, nor its spare room, whether it is put, whole or refused; a body is its caller's.
func TestMemory(t *testing.T) {
	j, m := filled(t, 5, 5, 6)
	for _, f := range []frame.Frame{at(7, 0, 3), at(7, 1, 3), at(7, 1, 3), at(4, 0, 2), at(8, 0, 1), at(7, 3, 3), at(7, 2, 3)} {
		spare := row(9, f.Head.Index)
		was := slices.Clone(spare)
		f.Payload = spare[:3]
		out, _ := take(t, j, m, f)
		if !bytes.Equal(spare, was) {
			t.Errorf("%s: changed to %v", frame.Line(f), spare)
		}
		body := slices.Clone(out.Body)
		spoil(spare[:3])
		is(t, "behind a payload that was changed", j, m)
		if !bytes.Equal(out.Body, body) {
			t.Errorf("%s: the body shares the payload's memory", frame.Line(f))
		}
		spoil(out.Body)
		is(t, "behind a body that was changed", j, m)
	}
}

// P15.2: the window and the table that are given are copies: what is marked or put to them is theirs alone, and what the joiner does isn't theirs.
func TestPartsAreCopies(t *testing.T) {
	j, m := filled(t, 5, 5, 6, 7)
	was := m.copied()
	w, x := j.Window(), j.Table()
	if w == nil || x == nil {
		t.Fatal("no window, or no table")
	}
	w.Mark(6)
	w.Mark(1000)
	is(t, "when a window that was given was marked", j, m)
	x.Put(at(6, 0, 2, 1))
	x.Put(at(9, 0, 2, 1))
	x.Drop(5)
	is(t, "when a table that was given was put to", j, m)
	w, x = j.Window(), j.Table()
	for _, s := range x.All() {
		s.Put(frameOf(s.Head(), 0, 40))
		s.Put(frameOf(s.Head(), 1, 40))
	}
	is(t, "when slots of a table that was given were put to", j, m)
	done(t, j, m, 6, api.OK)
	whole(t, j, m, at(5, 1, 2, 4), 0, 5, 4)
	done(t, j, m, 70, api.OK)
	drops(t, j, m, 7, true)
	if w.Top() != was.top || w.Bits() != was.bits() {
		t.Errorf("a window that was given has the top %d, the bits %x", w.Top(), w.Bits())
	}
	tableIs(t, "a table that was given", x, was)
	if j.Window() == j.Window() || j.Table() == j.Table() {
		t.Error("two that were given are one")
	}
}

// P15.2: how many fragments each lacks, in the order in which they came, of counts from 2 to 255.
func TestLacks(t *testing.T) {
	j, m := of(t, last-1, 4)
	counts := []int{255, 2, 193, 3}
	seqs := []uint32{2, last, 0, last - 1}
	for i, seq := range seqs {
		kept(t, j, m, at(seq, counts[i]-1, counts[i], 1))
	}
	for i := range 192 {
		for k, seq := range seqs {
			if i < counts[k]-2 && i < 190 {
				kept(t, j, m, at(seq, i, counts[k], byte(i)))
			}
		}
		var want []pair
		for k, seq := range seqs {
			want = append(want, pair{seq, max(1, counts[k]-2-min(i, 189))})
		}
		if got := given(j.Waiting(), 0); !slices.Equal(got, want) {
			t.Fatalf("behind %d rounds: %v, not %v", i+1, got, want)
		}
	}
}

// P15.2: a ranging over Waiting is left at each of its places, asks no further then, and gives all anew each time, also within a loop.
func TestWaitingIsRangedOver(t *testing.T) {
	for _, n := range []int{1, 2, 3, 16} {
		j, m := filled(t, last, run(last, n)...)
		want, seq := m.waiting(), j.Waiting()
		for most := 1; most <= n; most++ {
			if got := given(seq, most); !slices.Equal(got, want[:most]) {
				t.Errorf("%d slots, left at %d: %v", n, most, got)
			}
			asked := 0
			seq(func(uint32, int) bool {
				asked++
				return asked < most
			})
			if asked != most {
				t.Errorf("%d slots, left at %d: asked %d times", n, most, asked)
			}
			if got := given(seq, 0); !slices.Equal(got, want) {
				t.Errorf("%d slots, behind a loop that was left at %d: %v", n, most, got)
			}
		}
		outer := 0
		for range seq {
			outer++
			if got := given(seq, outer); !slices.Equal(got, want[:outer]) {
				t.Errorf("%d slots, a loop in the loop: %v", n, got)
			}
		}
		if outer != n {
			t.Errorf("%d slots: %d, with a loop in the loop", n, outer)
		}
		is(t, "behind rangings", j, m)
	}
	j, _ := of(t, 5, 3)
	if j.Waiting() == nil || len(given(j.Waiting(), 0)) > 0 {
		t.Error("in an empty joiner something waits")
	}
}

// P15.2: what Waiting gives is of when it was called, also when the joiner is called ahead of the ranging, or within it.
func TestWaitingIsOfItsCall(t *testing.T) {
	for _, ahead := range []bool{true, false} {
		j, m := of(t, 5, 3)
		kept(t, j, m, at(5, 0, 3, 1), at(6, 0, 4, 1), at(7, 0, 2, 1))
		want, seq := []pair{{5, 2}, {6, 3}, {7, 1}}, j.Waiting()
		changes := []func(){
			func() {
				drops(t, j, m, 6, true)
				kept(t, j, m, at(8, 0, 2, 1), at(5, 1, 3, 1))
			},
			func() {
				evicts(t, j, m, at(9, 0, 2, 1), 5)
				done(t, j, m, 8, api.OK)
			},
			func() {
				whole(t, j, m, at(7, 1, 2, 1), 1, 1)
				done(t, j, m, 1000, api.OK)
			},
		}
		if ahead {
			for _, change := range changes {
				change()
			}
		}
		for round := range 2 {
			i := 0
			for n, lacks := range seq {
				if i == len(want) || n != want[i].seq || lacks != want[i].lacks {
					t.Fatalf("%d lacks %d at %d, ahead: %t", n, lacks, i, ahead)
				}
				if !ahead && round == 0 {
					changes[i]()
				}
				i++
			}
			if i != len(want) {
				t.Fatalf("%d wait, ahead: %t", i, ahead)
			}
		}
		if got := given(j.Waiting(), 0); !slices.Equal(got, []pair{{9, 1}}) {
			t.Errorf("%v, ahead: %t", got, ahead)
		}
	}
}

// states: joiners of all makes, with their models: fresh ones, ones that aren't full, ones that are, ones that slots went from and ones whose window has gaps.
func states(t *testing.T) ([]*join.Joiner, []*model) {
	t.Helper()
	var js []*join.Joiner
	var ms []*model
	for _, room := range []int{1, 2, 3, 16} {
		for _, n := range []int{0, 1, room - 1, room, room + 1, 2 * room} {
			j, m := of(t, last, room)
			for i, seq := range run(last, n) {
				take(t, j, m, at(seq, i%3, 3, row(1+i, i)...))
			}
			if n > room {
				did(t, j, m, m.slots[room/2].h.Seq)
				did(t, j, m, 60)
			}
			js, ms = append(js, j), append(ms, m)
		}
	}
	return js, ms
}

// acts: things that are done to a joiner, of which each changes some.
func acts(t *testing.T, j *join.Joiner, m *model) []func() {
	var out []func()
	for _, f := range []frame.Frame{at(last, 1, 3, 5), at(0, 0, 3, 5, 6), at(1, 2, 3, 7), at(62, 0, 2, 7), at(63, 0, 1, 9), at(62, 1, 2, 7)} {
		out = append(out, func() { take(t, j, m, f) })
	}
	for _, seq := range []uint32{last, 0, 3, 61, 200} {
		out = append(out, func() { drops(t, j, m, seq, m.at(seq) >= 0) }, func() { did(t, j, m, seq) })
	}
	return out
}

// P15.2: a copy is the same, and what is taken, marked or dropped by it, or by the joiner that it was made from, is done to it alone.
func TestCopy(t *testing.T) {
	js, ms := states(t)
	for i, j := range js {
		m := ms[i]
		c, mc := j.Copy(), m.copied()
		is(t, "a copy", c, mc)
		cc, mcc := c.Copy(), mc.copied()
		for _, act := range acts(t, c, mc) {
			act()
			is(t, "a joiner whose copy was changed", j, m)
		}
		is(t, "a copy of a copy that was changed", cc, mcc)
		c, mc = j.Copy(), m.copied()
		for _, act := range acts(t, j, m) {
			act()
			is(t, "a copy whose joiner was changed", c, mc)
		}
		is(t, "a copy of a copy, when all else was changed", cc, mcc)
		back := acts(t, cc, mcc)
		for k, act := range acts(t, c, mc) { // both, in turn, one of them from behind
			act()
			back[len(back)-1-k]()
			is(t, "a copy", c, mc)
			is(t, "another copy", cc, mcc)
		}
	}
}

// P15.1: two joiners are two.
func TestTwo(t *testing.T) {
	a, ma := of(t, 5, 1)
	b, mb := of(t, 5, 1)
	kept(t, a, ma, at(5, 0, 2, 1))
	is(t, "the other one", b, mb)
	kept(t, b, mb, at(5, 1, 2, 7))
	whole(t, a, ma, at(5, 1, 2, 2), 1, 2)
	done(t, a, ma, 5, api.OK)
	is(t, "the other one", b, mb)
	whole(t, b, mb, at(5, 0, 2, 8), 8, 7)
}

// P15.1, P15.2: all short rows of frames, of Done and of Drop, against the words.
func TestShortRows(t *testing.T) {
	type act func(j *join.Joiner, m *model)
	var all []act
	frames := []frame.Frame{at(0, 0, 3, 5), at(0, 1, 2, row(191, 0)...), at(1, 0, 2, row(193, 0)...), at(1, 1, 2), at(0, 2, 2, 5), at(half, 0, 2, 1)}
	for _, seq := range []uint32{last, 0, 1} {
		frames = append(frames, at(seq, 0, 1, 1), at(seq, 0, 2, 2, 3), at(seq, 1, 2, 4))
		all = append(all, func(j *join.Joiner, m *model) { drops(t, j, m, seq, m.at(seq) >= 0) })
	}
	for _, f := range frames {
		all = append(all, func(j *join.Joiner, m *model) { take(t, j, m, f) })
	}
	for _, seq := range []uint32{last - 1, last, 0, 1, 63, 64, half - 1, half} {
		all = append(all, func(j *join.Joiner, m *model) { did(t, j, m, seq) })
	}
	for _, room := range []int{1, 2} {
		for _, a := range all {
			for _, b := range all {
				j, m := of(t, last, room)
				a(j, m)
				b(j, m)
				for _, c := range all {
					c(j.Copy(), m.copied())
				}
			}
		}
	}
}

// chance: numbers that look like chance, the same each time.
type chance uint64

// below: the next one, below a bound.
func (c *chance) below(n int) int {
	*c = *c*6364136223846793005 + 1442695040888963407
	return int(uint64(*c) >> 33 % uint64(n))
}

// P15.1 to P15.3: long rows of frames, of Done and of Drop, against the words.
func TestLongRows(t *testing.T) {
	c := chance(1)
	for room := 1; room <= 16; room++ {
		tells, dones := map[api.Errno]int{}, map[api.Errno]int{}
		for _, most := range []int{1, 60, 200} { // bytes of a payload
			longRow(t, &c, room, most, tells, dones)
		}
		for _, e := range []api.Errno{api.OK, api.ErrSeen, api.ErrOld, api.ErrLate, api.ErrTwice} {
			if tells[e] == 0 {
				t.Errorf("room %d: no frame told %d", room, e)
			}
		}
		for _, e := range []api.Errno{api.OK, api.ErrSeen, api.ErrOld} {
			if dones[e] == 0 {
				t.Errorf("room %d: Done told %d of no number", room, e)
			}
		}
	}
}

// longRow: one such row; how often Take and Done tell each error is counted.
func longRow(t *testing.T, c *chance, room, most int, tells, dones map[api.Errno]int) {
	t.Helper()
	j, m := of(t, last-20, room)
	begin := uint32(last - 60 + c.below(40))
	for i := range 500 {
		seq := begin + uint32(i/4+c.below(2*room+90))
		count := 1 + int(seq%4)
		f := at(seq, c.below(count), count, row(c.below(most+1), c.below(256))...)
		switch c.below(40) {
		case 0:
			f.Head.Kind = c.below(7)
		case 1:
			f.Head.Count = c.below(300)
		case 2:
			drops(t, j, m, seq, m.at(seq) >= 0)
		case 3:
			j = j.Copy()
		case 4:
			f.Head.Seq += uint32(c.below(4)) << 30
		case 5, 6, 7, 8:
			dones[did(t, j, m, seq)]++
		}
		out, e := take(t, j, m, f)
		tells[e]++
		if out.Whole && c.below(3) > 0 {
			dones[did(t, j, m, seq)]++
		}
	}
}

// P15.3: messages whose frames come doubled and out of order, each told done as it is whole: each is whole once, and as it was.
func TestEachOnce(t *testing.T) {
	c := chance(7)
	for _, start := range []uint32{0, last - 20, half - 20} {
		j, m := of(t, start, 16)
		bodies := map[uint32][]byte{}
		var all []frame.Frame
		for i, seq := range run(start, 40) {
			bodies[seq] = row(1+c.below(192), i)
			l, e := cut.Frames(head.Head{Version: 1, Kind: 5, Seq: seq}, bodies[seq], 50)
			if e != api.OK {
				t.Fatal(e)
			}
			all = append(all, slices.Concat(l, l)...)
		}
		for i := range all { // none goes further than some frames
			k := min(len(all)-1, i+c.below(12))
			all[i], all[k] = all[k], all[i]
		}
		wholes := map[uint32]int{}
		for _, f := range slices.Concat(all, all) {
			out, _ := take(t, j, m, f)
			if !out.Whole {
				continue
			}
			seq := f.Head.Seq
			wholes[seq]++
			if wholes[seq] > 1 || !bytes.Equal(out.Body, bodies[seq]) {
				t.Fatalf("%d is whole %d times, %v, not %v", seq, wholes[seq], out.Body, bodies[seq])
			}
			done(t, j, m, seq, api.OK)
		}
		if len(wholes) != len(bodies) || j.Held() != 0 {
			t.Errorf("from %d: %d bodies of %d, %d bytes left", start, len(wholes), len(bodies), j.Held())
		}
	}
}

// P15.3: a nil joiner answers each call, and stays nil.
func TestNil(t *testing.T) {
	var j *join.Joiner
	for range 2 {
		for _, f := range []frame.Frame{{}, at(5, 0, 1, 1), at(5, 0, 2, 1), at(5, 0, 1), at(5, 2, 2, 1), at(5, 0, 1, row(193, 0)...)} {
			if out, e := j.Take(f); e != api.ErrArg || !same(out, table.Out{}) {
				t.Errorf("nil: Take(%s): %v, %d", frame.Line(f), out, e)
			}
		}
		for _, seq := range []uint32{0, 5, half, last} {
			if e := j.Done(seq); e != api.ErrArg || j.Drop(seq) {
				t.Errorf("nil: Done(%d): %d, or Drop", seq, e)
			}
		}
		if j.Window() != nil || j.Table() != nil || j.Copy() != nil || j.Held() != 0 {
			t.Errorf("nil: %v, %v, %v, %d", j.Window(), j.Table(), j.Copy(), j.Held())
		}
		waiting := j.Waiting()
		if waiting == nil {
			t.Fatal("nil: Waiting is nil")
		}
		if got := given(waiting, 0); len(got) > 0 {
			t.Errorf("nil: %v", got)
		}
	}
}
