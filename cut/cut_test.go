package cut_test

import (
	"bytes"
	"math"
	"slices"
	"testing"

	"cuneiform/api"
	"cuneiform/cut"
	"cuneiform/frame"
	"cuneiform/head"
)

// row: n bytes, of which those next to one another, and those that a few places part, are told apart; some are 0.
func row(n int) []byte {
	out := make([]byte, n)
	for i := range out {
		out[i] = byte(i*7 + i/256 + n)
	}
	return out
}

// rooms: some of those that a body may be cut by, the bounds among them.
func rooms() []int {
	return []int{1, 2, 3, 4, 5, 7, 16, 31, 48, 63, 64, 65, 95, 96, 97, 127, 128, 129, 190, 191, 192, 193, 194, 240, 241, 242}
}

// otherRooms: those that no body is cut by; among them some that a byte or 32 bits would tell as one that is.
func otherRooms() []int {
	return []int{0, -1, -2, -242, -255, 243, 244, 254, 255, 256, 257, 256 + 3, 1000, 1<<32 + 1, 1<<32 + 3, -1<<32 + 3, math.MinInt, math.MinInt + 1, math.MaxInt - 1, math.MaxInt}
}

// numbers: ends and bounds of int, for calls that may be handed any.
func numbers() []int {
	return []int{math.MinInt, math.MinInt + 1, -1 << 32, math.MinInt32, -256, -2, -1, 0, 1, 2, 3, 191, 192, 193, 242, 243, 255, 256, math.MaxInt32, 1 << 32, 1<<62 - 1, 1 << 62, math.MaxInt - 1, math.MaxInt}
}

// heads: some that may be, but for what stands in the stead of their index and count.
func heads() []head.Head {
	var out []head.Head
	for _, version := range []int{1, 2} {
		for kind := 1; kind <= 5; kind++ {
			for _, seq := range []uint32{0, 1, 9, 0x04030201, 1 << 31, math.MaxUint32} {
				out = append(out, head.Head{Version: version, Kind: kind, Seq: seq, Index: kind, Count: 9})
			}
		}
	}
	return out
}

// partsOf: the parts as the chapter's words say them, byte by byte: one begins where the one ahead of it has what the room has.
func partsOf(b []byte, room int) [][]byte {
	var out [][]byte
	if room < 1 {
		return nil
	}
	for _, c := range b {
		if len(out) == 0 || len(out[len(out)-1]) == room {
			out = append(out, nil)
		}
		out[len(out)-1] = append(out[len(out)-1], c)
	}
	return out
}

// framesOf: a body's frames as the chapter's words say them.
func framesOf(h head.Head, b []byte, room int) []frame.Frame {
	parts := partsOf(b, room)
	var out []frame.Frame
	for i, p := range parts {
		out = append(out, frame.Frame{Head: head.Head{Version: h.Version, Kind: h.Kind, Seq: h.Seq, Index: i, Count: len(parts)}, Payload: p})
	}
	return out
}

// framesError: what P12.2 has to tell.
func framesError(h head.Head, b []byte, room int) api.Errno {
	if len(b) == 0 {
		return api.ErrShort
	}
	if len(b) > 192 {
		return api.ErrLong
	}
	if room < 1 || room > 242 {
		return api.ErrRange
	}
	if h.Version != 1 && h.Version != 2 {
		return api.ErrVersion
	}
	if h.Kind < 1 || h.Kind > 5 {
		return api.ErrKind
	}
	return api.OK
}

// wholeError: what P12.3 has to tell.
func wholeError(l []frame.Frame) api.Errno {
	for i, f := range l {
		a, b := l[0].Head, f.Head
		if a.Version != b.Version || a.Kind != b.Kind || a.Seq != b.Seq || a.Count != b.Count {
			return api.ErrMeet
		}
		if b.Index != i {
			return api.ErrForm
		}
	}
	if len(l) == 0 || len(l) < l[0].Head.Count {
		return api.ErrShort
	}
	if len(l) > l[0].Head.Count {
		return api.ErrMany
	}
	return api.OK
}

// payloads: those of frames, one behind the other.
func payloads(l []frame.Frame) []byte {
	var out []byte
	for _, f := range l {
		out = append(out, f.Payload...)
	}
	return out
}

// given: what Parts gives, each part copied at once, its index in its place.
func given(t *testing.T, b []byte, room int) [][]byte {
	t.Helper()
	var out [][]byte
	for i, p := range cut.Parts(b, room) {
		if i != len(out) {
			t.Fatalf("Parts of %d bytes, %d: the index %d, not %d", len(b), room, i, len(out))
		}
		out = append(out, slices.Clone(p))
	}
	return out
}

func same(a, b [][]byte) bool { return slices.EqualFunc(a, b, bytes.Equal) }

func sameFrames(a, b []frame.Frame) bool { return slices.EqualFunc(a, b, frame.Same) }

// lengths: how many bytes parts have.
func lengths(l [][]byte) []int {
	var out []int
	for _, p := range l {
		out = append(out, len(p))
	}
	return out
}

// isCut: whether Frames answers what it has to of a body, and Whole the body again.
func isCut(t *testing.T, h head.Head, b []byte, room int) {
	t.Helper()
	l, e := cut.Frames(h, b, room)
	if e != api.OK || !sameFrames(l, framesOf(h, b, room)) {
		t.Errorf("Frames(%v, %d bytes, %d): %d frames, %d: %v", h, len(b), room, len(l), e, l)
	}
	if body, e := cut.Whole(l...); e != api.OK || !bytes.Equal(body, b) {
		t.Errorf("Whole of %d bytes, cut by %d: %v, %d", len(b), room, body, e)
	}
}

// refused: whether Frames tells this error, and no frames.
func refused(t *testing.T, h head.Head, b []byte, room int, want api.Errno) {
	t.Helper()
	if l, e := cut.Frames(h, b, room); e != want || len(l) > 0 {
		t.Errorf("Frames(%v, %d bytes, %d): %d frames, %d, not %d", h, len(b), room, len(l), e, want)
	}
}

// wholes: whether Whole answers what it has to.
func wholes(t *testing.T, l []frame.Frame) {
	t.Helper()
	want := wholeError(l)
	b, e := cut.Whole(l...)
	if e != want {
		t.Errorf("Whole(%v): %d, not %d", l, e, want)
	}
	if e != api.OK && len(b) > 0 {
		t.Errorf("Whole(%v): %v beside %d", l, b, e)
	}
	if e == api.OK && !bytes.Equal(b, payloads(l)) {
		t.Errorf("Whole(%v): %v", l, b)
	}
}

// of: frames of one message, of one byte each, with these indices.
func of(count int, indices ...int) []frame.Frame {
	var out []frame.Frame
	for i, n := range indices {
		out = append(out, frame.Frame{Head: head.Head{Version: 2, Kind: 3, Seq: 9, Index: n, Count: count}, Payload: []byte{byte(40 + i)}})
	}
	return out
}

// P12.1: parts that are known, as how many bytes each has.
func TestKnownParts(t *testing.T) {
	for _, x := range []struct {
		n, room int
		want    []int
	}{
		{7, 3, []int{3, 3, 1}}, {7, 4, []int{4, 3}}, {6, 3, []int{3, 3}}, {9, 3, []int{3, 3, 3}}, {10, 3, []int{3, 3, 3, 1}}, {8, 3, []int{3, 3, 2}},
		{7, 1, []int{1, 1, 1, 1, 1, 1, 1}}, {7, 6, []int{6, 1}}, {7, 7, []int{7}}, {7, 8, []int{7}}, {7, 1000, []int{7}}, {7, math.MaxInt, []int{7}},
		{1, 1, []int{1}}, {1, 2, []int{1}}, {1, 242, []int{1}}, {1, math.MaxInt, []int{1}}, {2, 1, []int{1, 1}}, {2, 2, []int{2}},
		{192, 191, []int{191, 1}}, {192, 192, []int{192}}, {192, 193, []int{192}}, {192, 96, []int{96, 96}}, {192, 242, []int{192}}, {193, 242, []int{193}}, {193, 192, []int{192, 1}},
		{241, 242, []int{241}}, {242, 242, []int{242}}, {243, 242, []int{242, 1}}, {485, 242, []int{242, 242, 1}}, {243, 243, []int{243}}, {1000, 400, []int{400, 400, 200}},
		{7, 0, nil}, {7, -1, nil}, {7, -7, nil}, {7, math.MinInt, nil}, {0, 1, nil}, {0, 3, nil}, {0, 0, nil}, {0, -1, nil}, {0, math.MaxInt, nil}, {0, math.MinInt, nil},
	} {
		got := given(t, row(x.n), x.room)
		if !slices.Equal(lengths(got), x.want) {
			t.Errorf("Parts of %d bytes, %d: %v, not %v", x.n, x.room, lengths(got), x.want)
		}
		if len(x.want) > 0 && !bytes.Equal(slices.Concat(got...), row(x.n)) {
			t.Errorf("Parts of %d bytes, %d: %v in all", x.n, x.room, got)
		}
	}
	if got := given(t, []byte("abcdefg"), 3); !same(got, [][]byte{[]byte("abc"), []byte("def"), []byte("g")}) {
		t.Errorf("Parts of abcdefg, 3: %s", got)
	}
	for _, room := range numbers() {
		if len(given(t, nil, room)) > 0 || len(given(t, []byte{}, room)) > 0 {
			t.Errorf("Parts of no bytes, %d, gives something", room)
		}
	}
}

// P12.1: parts of bytes of any length, by any room, against the words; Count tells how many there are.
func TestPartsAgainstTheWords(t *testing.T) {
	look := func(n, room int) {
		want := partsOf(row(n), room)
		if got := given(t, row(n), room); !same(got, want) {
			t.Errorf("Parts of %d bytes, %d: %v, not %v", n, room, lengths(got), lengths(want))
		}
		if got := given(t, make([]byte, n), room); !slices.Equal(lengths(got), lengths(want)) {
			t.Errorf("Parts of %d noughts, %d: %v, not %v", n, room, lengths(got), lengths(want))
		}
		if count := cut.Count(n, room); n > 0 && count != len(want) {
			t.Errorf("Count(%d, %d): %d, not %d", n, room, count, len(want))
		}
	}
	for n := range 60 {
		for room := -3; room <= 63; room++ {
			look(n, room)
		}
	}
	for _, n := range []int{100, 191, 192, 193, 241, 242, 243, 255, 256, 257, 484, 1000, 5000, 65537} {
		for _, room := range append(append(rooms(), otherRooms()...), 500, 999, 1000, 1001, 2499, 2500, 4999, 5000, 5001, 65536, 65537) {
			look(n, room)
		}
	}
}

// P12.1: how many parts there are, at the bounds and the ends of int.
func TestCount(t *testing.T) {
	for _, x := range [][3]int{
		{7, 3, 3}, {6, 3, 2}, {9, 3, 3}, {10, 3, 4}, {7, 1, 7}, {7, 6, 2}, {7, 7, 1}, {7, 8, 1}, {1, 1, 1}, {1, 100, 1}, {2, 1, 2},
		{192, 1, 192}, {192, 192, 1}, {192, 242, 1}, {193, 192, 2}, {242, 242, 1}, {243, 242, 2}, {243, 243, 1}, {1000, 3, 334}, {999, 3, 333},
		{0, 1, 1}, {0, 3, 1}, {0, math.MaxInt, 1}, {-1, 1, 1}, {-4, 3, 1}, {-3, 3, 1}, {-1000, 3, 1}, {math.MinInt, 1, 1}, {math.MinInt, math.MaxInt, 1}, {math.MinInt + 1, 2, 1},
		{7, 0, 0}, {7, -1, 0}, {7, -3, 0}, {7, math.MinInt, 0}, {0, 0, 0}, {0, -1, 0}, {-1, 0, 0}, {-1, -1, 0}, {-7, -3, 0}, {math.MinInt, -1, 0}, {math.MinInt, 0, 0}, {math.MinInt, math.MinInt, 0}, {math.MaxInt, 0, 0}, {math.MaxInt, -1, 0}, {math.MaxInt, math.MinInt, 0},
		{math.MaxInt, 1, math.MaxInt}, {math.MaxInt - 1, 1, math.MaxInt - 1}, {math.MaxInt, math.MaxInt, 1}, {math.MaxInt - 1, math.MaxInt, 1}, {math.MaxInt, math.MaxInt - 1, 2}, {math.MaxInt, 2, 1 << 62}, {math.MaxInt - 1, 2, 1<<62 - 1}, {math.MaxInt, 1 << 62, 2}, {1 << 62, 1 << 62, 1}, {1<<62 + 1, 1 << 62, 2}, {1, math.MaxInt, 1},
	} {
		if got := cut.Count(x[0], x[1]); got != x[2] {
			t.Errorf("Count(%d, %d): %d, not %d", x[0], x[1], got, x[2])
		}
	}
	for _, n := range numbers() {
		for _, room := range numbers() {
			want := 0
			switch {
			case room >= 1 && n < 1:
				want = 1
			case room >= 1:
				want = n / room
				if n%room > 0 {
					want++
				}
			}
			if got := cut.Count(n, room); got != want {
				t.Errorf("Count(%d, %d): %d, not %d", n, room, got, want)
			}
		}
	}
}

// P12.1: what Parts gives is never nil, is given anew each time, and a loop may end at any.
func TestPartsIsRangedOver(t *testing.T) {
	for _, room := range numbers() {
		if cut.Parts(nil, room) == nil || cut.Parts([]byte{}, room) == nil || cut.Parts([]byte{5}, room) == nil {
			t.Fatalf("Parts by %d is nil", room)
		}
	}
	b := row(20)
	for _, room := range []int{1, 3, 10, 19, 20, 21} {
		want := partsOf(b, room)
		seq := cut.Parts(b, room)
		for most := 1; most <= len(want); most++ {
			var got [][]byte
			for i, p := range seq {
				if i != len(got) {
					t.Errorf("%d: the index %d, not %d", room, i, len(got))
				}
				got = append(got, p)
				if len(got) == most {
					break
				}
			}
			if !same(got, want[:most]) {
				t.Errorf("%d: the first %d: %v", room, most, got)
			}
			asked := 0
			seq(func(int, []byte) bool { // a loop that has ended is asked nothing more
				asked++
				return asked < most
			})
			if asked != most {
				t.Errorf("%d: asked %d times, not %d", room, asked, most)
			}
		}
		outer := 0
		for i, p := range seq {
			if i != outer || !bytes.Equal(p, want[outer]) {
				t.Errorf("%d: part %d, with a loop in the loop: %d, %v", room, outer, i, p)
			}
			outer++
			inner := 0
			for i, p := range seq {
				if i != inner || !bytes.Equal(p, want[inner]) {
					t.Errorf("%d: part %d of a loop in the loop: %d, %v", room, inner, i, p)
				}
				inner++
			}
			if inner != len(want) {
				t.Errorf("%d: %d parts in a loop in the loop", room, inner)
			}
		}
		if outer != len(want) {
			t.Errorf("%d: %d parts, with a loop in the loop", room, outer)
		}
	}
}

// spoil: puts other bytes over a list, its spare room and behind it.
func spoil(b []byte) {
	for i := range b[:cap(b)] {
		b[:cap(b)][i] = 99
	}
	_ = append(b, 99, 99, 99)
}

// apart: whether lists share no memory: each is spoiled, and the others must stay as they are.
func apart(t *testing.T, what string, lists [][]byte) {
	t.Helper()
	for i, b := range lists {
		was := make([][]byte, len(lists))
		for k, other := range lists {
			was[k] = slices.Clone(other)
		}
		spoil(b)
		for k, other := range lists {
			if k != i && !bytes.Equal(other, was[k]) {
				t.Errorf("%s: lists %d and %d share memory", what, i, k)
			}
		}
	}
}

// P12.1: parts are new memory, each one, with its own room.
func TestPartsAreNew(t *testing.T) {
	for _, room := range []int{1, 3, 4, 11, 12, 13, 1000} {
		whole := append(row(12), 1, 2, 3, 4, 5)
		was := slices.Clone(whole)
		b := whole[:12]
		want := partsOf(was[:12], room)
		seq := cut.Parts(b, room)
		n := 0
		for _, p := range seq { // what is put to a part, or over it, comes neither to b nor to those behind it
			if !bytes.Equal(p, want[n]) {
				t.Errorf("%d: part %d: %v, not %v", room, n, p, want[n])
			}
			n++
			spoil(p)
		}
		if n != len(want) || !bytes.Equal(whole, was) {
			t.Errorf("%d: %d parts; the bytes are now %v", room, n, whole)
		}
		lists := [][]byte{whole}
		for range 2 {
			for _, p := range seq {
				lists = append(lists, p)
			}
		}
		if !same(lists[1:], append(slices.Clone(want), want...)) {
			t.Errorf("%d: parts that were changed are given as they were changed: %v", room, lists[1:])
		}
		apart(t, "Parts", lists)
	}
}

// P12.1, the rules on memory: bytes that are changed behind the call, or while their parts are ranged over, are given as they were.
func TestPartsOfChangedBytes(t *testing.T) {
	for _, room := range []int{1, 3, 5, 9, 10, 11} {
		b := row(10)
		want := partsOf(row(10), room)
		seq := cut.Parts(b, room)
		spoil(b)
		for range 2 {
			n := 0
			for _, p := range seq {
				if !bytes.Equal(p, want[n]) {
					t.Errorf("%d, changed behind the call: part %d: %v, not %v", room, n, p, want[n])
				}
				n++
			}
			if n != len(want) {
				t.Errorf("%d, changed behind the call: %d parts", room, n)
			}
		}
		b = row(10)
		n := 0
		for _, p := range cut.Parts(b, room) {
			if !bytes.Equal(p, want[n]) {
				t.Errorf("%d, changed within: part %d: %v, not %v", room, n, p, want[n])
			}
			n++
			clear(b)
		}
	}
}

// P12.2: frames that are known.
func TestKnownFrames(t *testing.T) {
	h := head.Head{Version: 2, Kind: 3, Seq: 9, Index: 77, Count: 5}
	l, e := cut.Frames(h, []byte("abcdefg"), 3)
	want := []frame.Frame{
		{Head: head.Head{Version: 2, Kind: 3, Seq: 9, Index: 0, Count: 3}, Payload: []byte("abc")},
		{Head: head.Head{Version: 2, Kind: 3, Seq: 9, Index: 1, Count: 3}, Payload: []byte("def")},
		{Head: head.Head{Version: 2, Kind: 3, Seq: 9, Index: 2, Count: 3}, Payload: []byte("g")},
	}
	if e != api.OK || !sameFrames(l, want) {
		t.Errorf("%v, %d", l, e)
	}
	l, e = cut.Frames(head.Head{Version: 1, Kind: 1, Seq: math.MaxUint32}, []byte{0}, 242)
	want = []frame.Frame{{Head: head.Head{Version: 1, Kind: 1, Seq: math.MaxUint32, Index: 0, Count: 1}, Payload: []byte{0}}}
	if e != api.OK || !sameFrames(l, want) {
		t.Errorf("%v, %d", l, e)
	}
	for _, x := range [][3]int{{192, 1, 192}, {192, 191, 2}, {192, 192, 1}, {192, 193, 1}, {192, 242, 1}, {191, 192, 1}, {1, 1, 1}, {2, 1, 2}, {3, 2, 2}, {4, 2, 2}, {5, 2, 3}} {
		l, e := cut.Frames(h, row(x[0]), x[1])
		if e != api.OK || len(l) != x[2] || l[0].Head.Index != 0 || l[0].Head.Count != x[2] || !head.Last(l[x[2]-1].Head) {
			t.Errorf("%d bytes by %d: %v, %d", x[0], x[1], l, e)
		}
	}
}

// P12.2, P12.4: bodies of each length, by many rooms, against the words; their frames are, in order, the whole body again.
func TestBodies(t *testing.T) {
	hs := heads()
	for n := 1; n <= 192; n++ {
		for i, room := range rooms() {
			isCut(t, hs[(n+i)%len(hs)], row(n), room)
		}
		for _, room := range []int{n - 1, n, n + 1, n / 2, n/2 + 1, n / 3, n/3 + 1} {
			if room > 0 {
				isCut(t, hs[n%len(hs)], row(n), room)
			}
		}
		isCut(t, hs[n%len(hs)], make([]byte, n), 1+n%7) // noughts are bytes like others
	}
	for room := 1; room <= 242; room++ {
		for _, n := range []int{1, 97, 191, 192} {
			isCut(t, hs[room%len(hs)], row(n), room)
		}
	}
}

// P12.2: all frames may be, and none has more on the wire than its room tells.
func TestFramesMayBe(t *testing.T) {
	c := frame.New()
	for _, h := range heads() {
		for _, n := range []int{1, 2, 100, 192} {
			for _, room := range []int{1, 2, 99, 100, 101, 191, 192, 242} {
				l, _ := cut.Frames(h, row(n), room)
				b, e := c.Pack(l...)
				if e != api.OK {
					t.Fatalf("%v, %d bytes by %d: %d", h, n, room, e)
				}
				var got []frame.Frame
				for f, e := range c.Frames(b) {
					got = append(got, f)
					if e != api.OK || frame.Wire(len(f.Payload)) > frame.Wire(room) {
						t.Errorf("%v, %d bytes by %d: %v, %d", h, n, room, f, e)
					}
				}
				if body, e := cut.Whole(got...); e != api.OK || !bytes.Equal(body, row(n)) {
					t.Errorf("%v, %d bytes by %d, packed and unpacked: %v, %d", h, n, room, body, e)
				}
			}
		}
	}
}

// P12.2: heads that may be, and whatever index and count they have.
func TestFramesOfAnyIndex(t *testing.T) {
	for _, h := range heads() {
		for _, index := range numbers() {
			for _, count := range numbers() {
				h.Index, h.Count = index, count
				isCut(t, h, []byte{5, 0, 6}, 2)
			}
		}
	}
}

// P12.2: each error at its bounds.
func TestFramesErrors(t *testing.T) {
	h := head.Head{Version: 1, Kind: 5, Seq: 7}
	refused(t, h, nil, 3, api.ErrShort)
	refused(t, h, []byte{}, 3, api.ErrShort)
	refused(t, h, row(9)[:0], 3, api.ErrShort)
	for _, n := range []int{193, 194, 242, 243, 255, 256, 257, 256 + 5, 1000, 65536 + 1} {
		refused(t, h, row(n), 3, api.ErrLong)
		refused(t, h, row(n), 242, api.ErrLong)
	}
	for _, room := range otherRooms() {
		for _, n := range []int{1, 3, 192} {
			refused(t, h, row(n), room, api.ErrRange)
		}
	}
	for _, n := range []int{0, -1, 3, 255, 256, 257, 258, 1<<32 + 1, math.MinInt, math.MaxInt} {
		wrong := h
		wrong.Version = n
		refused(t, wrong, row(7), 3, api.ErrVersion)
	}
	for _, n := range []int{0, -1, 6, 255, 256, 257, 261, 1<<32 + 1, math.MinInt, math.MaxInt} {
		wrong := h
		wrong.Kind = n
		refused(t, wrong, row(7), 3, api.ErrKind)
	}
}

// P12.2: which error comes first, where more than one applies.
func TestFramesFirstError(t *testing.T) {
	refused(t, head.Head{}, nil, 0, api.ErrShort)
	refused(t, head.Head{}, row(193), 0, api.ErrLong)
	refused(t, head.Head{}, row(192), 0, api.ErrRange)
	refused(t, head.Head{}, row(192), 243, api.ErrRange)
	refused(t, head.Head{}, row(192), 242, api.ErrVersion)
	refused(t, head.Head{Version: 1, Index: -1, Count: 0}, row(192), 1, api.ErrKind)
	for _, n := range []int{0, 1, 2, 191, 192, 193, 255, 256} {
		for _, room := range append(otherRooms(), 1, 2, 3, 191, 192, 193, 241, 242) {
			for version := -1; version <= 4; version++ {
				for kind := -1; kind <= 7; kind++ {
					for _, seq := range []uint32{0, 1, math.MaxUint32} { // each number may be
						h := head.Head{Version: version, Kind: kind, Seq: seq, Index: room, Count: n}
						want := framesError(h, row(n), room)
						if want != api.OK {
							refused(t, h, row(n), room, want)
							continue
						}
						isCut(t, h, row(n), room)
					}
				}
			}
		}
	}
}

// P12.2: frames are new memory, each payload with its own room, and the body is neither kept nor changed.
func TestFramesAreNew(t *testing.T) {
	h := head.Head{Version: 1, Kind: 2, Seq: 3, Index: 4, Count: 5}
	for _, room := range []int{1, 3, 4, 11, 12, 13, 242} {
		spare := append(row(12), 1, 2, 3, 4, 5)
		was := slices.Clone(spare)
		want := framesOf(h, was[:12], room)
		a, _ := cut.Frames(h, spare[:12], room)
		b, _ := cut.Frames(h, spare[:12], room)
		if !bytes.Equal(spare, was) {
			t.Errorf("%d: changed to %v", room, spare)
		}
		lists := [][]byte{spare}
		for _, f := range append(slices.Clone(a), b...) {
			lists = append(lists, f.Payload)
		}
		apart(t, "Frames", lists)
		c, _ := cut.Frames(h, was[:12], room)
		d, _ := cut.Frames(h, was[:12], room)
		clear(c[:cap(c)]) // the rows are new as well
		_ = append(c[:0], frame.Frame{Payload: []byte{99}})
		spoil(was)
		if !sameFrames(d, want) {
			t.Errorf("%d: %v", room, d)
		}
	}
}

// P12.3: what is told of frames, one row at a time.
func TestKnownWholes(t *testing.T) {
	l := of(3, 0, 1, 2)
	other := slices.Clone(l)
	other[1].Head.Kind = 4
	both := slices.Clone(l)
	both[1].Head.Seq, both[1].Head.Index = 8, 2
	meetLate := of(3, 0, 2, 2)
	meetLate[2].Head.Version = 1
	meetEarly := of(3, 0, 1, 1)
	meetEarly[1].Head.Count = 4
	for i, x := range []struct {
		l    []frame.Frame
		want string
		e    api.Errno
	}{
		{l, "()*", api.OK},
		{of(1, 0), "(", api.OK},
		{nil, "", api.ErrShort},
		{[]frame.Frame{}, "", api.ErrShort},
		{l[:1], "", api.ErrShort},
		{l[:2], "", api.ErrShort},
		{l[1:], "", api.ErrForm},
		{l[2:], "", api.ErrForm},
		{of(3, 0, 2), "", api.ErrForm},
		{of(3, 0, 2, 1), "", api.ErrForm},
		{of(3, 2, 1, 0), "", api.ErrForm},
		{of(3, 0, 0, 1, 2), "", api.ErrForm}, // one that comes twice
		{of(3, 0, 1, 1, 2), "", api.ErrForm},
		{of(3, 0, 1, 2, 2), "", api.ErrForm},
		{of(3, 0, 1, 2, 0), "", api.ErrForm},
		{of(1, 0, 0), "", api.ErrForm},
		{of(3, 0, 1, 2, 3), "", api.ErrMany}, // each in its place, but more than the count
		{of(1, 0, 1), "", api.ErrMany},
		{of(2, 0, 1, 2, 3, 4), "", api.ErrMany},
		{other, "", api.ErrMeet},
		{other[:2], "", api.ErrMeet},
		{both, "", api.ErrMeet},     // no mate ahead of its place
		{meetLate, "", api.ErrForm}, // the first frame that is wrong is told
		{meetEarly, "", api.ErrMeet},
		{append(slices.Clone(l), other[1]), "", api.ErrMeet},
		{append(slices.Clone(l[:2]), other[1]), "", api.ErrMeet},
		{append(of(3, 1), other[1]), "", api.ErrForm},
	} {
		if b, e := cut.Whole(x.l...); string(b) != x.want || e != x.e {
			t.Errorf("%d: %q, %d, not %q, %d", i, b, e, x.want, x.e)
		}
		wholes(t, x.l)
	}
	if b, e := cut.Whole(); len(b) > 0 || e != api.ErrShort {
		t.Errorf("Whole of no frames: %v, %d", b, e)
	}
}

// frameRows: calls f with all rows of up to most frames of some, behind a beginning.
func frameRows(begin, of []frame.Frame, most int, f func(l []frame.Frame)) {
	f(slices.Clone(begin))
	if most == 0 {
		return
	}
	for _, x := range of {
		frameRows(append(slices.Clone(begin), x), of, most-1, f)
	}
}

// P12.3: all short rows of frames, of several messages, against the words.
func TestWholeAgainstTheWords(t *testing.T) {
	var some []frame.Frame
	for index := range 3 {
		for _, h := range []head.Head{{Version: 1, Kind: 2, Seq: 5, Count: 3}, {Version: 2, Kind: 2, Seq: 5, Count: 3}, {Version: 1, Kind: 2, Seq: 5, Count: 2}} {
			h.Index = index
			some = append(some, frame.Frame{Head: h, Payload: []byte{byte(10*h.Version + h.Count), byte(index)}})
		}
	}
	frameRows(nil, some, 5, func(l []frame.Frame) { wholes(t, l) })
	some = nil
	for _, index := range []int{-1, 0, 1, 2, 3, 4} {
		for _, count := range []int{1, 3} {
			some = append(some, of(count, index)...)
		}
	}
	frameRows(nil, some, 4, func(l []frame.Frame) { wholes(t, l) })
}

// P12.3: the frames of a message, of which one is told otherwise: each thing that makes it no mate, and each other index, at each place.
func TestOneOtherFrame(t *testing.T) {
	for _, x := range [][2]int{{7, 3}, {7, 7}, {192, 1}, {192, 64}, {10, 1}} {
		l, _ := cut.Frames(head.Head{Version: 2, Kind: 4, Seq: 1 << 31}, row(x[0]), x[1])
		for at := range l {
			was := l[at]
			look := func(f frame.Frame, want api.Errno) {
				t.Helper()
				l[at] = f
				if e := wholeError(l); e != want {
					t.Fatalf("%d: the words tell %d, not %d", at, e, want)
				}
				wholes(t, l)
				l[at] = was
			}
			meet := api.ErrMeet
			if len(l) == 1 {
				meet = api.OK // it is a mate of itself
			}
			for _, h := range []head.Head{{Version: 1, Kind: 4, Seq: 1 << 31}, {Version: 2, Kind: 5, Seq: 1 << 31}, {Version: 2, Kind: 4, Seq: 1<<31 + 1}, {Version: 2, Kind: 4}} {
				h.Index, h.Count = at, len(l)
				look(frame.Frame{Head: h, Payload: was.Payload}, meet)
			}
			for _, index := range []int{at - 1, at + 1, at + 256, at - 256, at + 1<<32, len(l), -1, math.MinInt, math.MaxInt} {
				if index == at {
					continue
				}
				h := was.Head
				h.Index = index
				look(frame.Frame{Head: h, Payload: was.Payload}, api.ErrForm)
				if at > 0 { // both in one frame
					h.Count++
					look(frame.Frame{Head: h, Payload: was.Payload}, api.ErrMeet)
				}
			}
			wholes(t, l[:at])                                     // fewer
			wholes(t, l[at:])                                     // from another one on
			wholes(t, slices.Concat(l[:at], l[at+1:]))            // one is lost
			wholes(t, slices.Concat(l[:at+1], l[at:]))            // one comes twice
			wholes(t, slices.Concat(l[at:], l[:at]))              // turned about
			wholes(t, slices.Concat(l, []frame.Frame{was}))       // one comes again at the end
			wholes(t, slices.Concat([]frame.Frame{was}, l))       // or ahead
			wholes(t, append(slices.Clone(l), of(len(l), at)...)) // or another message's
		}
	}
}

// P12.3: more frames than the count, and fewer, up to the ends of int; each in its place.
func TestWholeCounts(t *testing.T) {
	for n := 1; n <= 5; n++ {
		for _, count := range numbers() {
			var l []frame.Frame
			for i := range n {
				l = append(l, of(count, i)...)
			}
			want := api.OK
			switch {
			case count > n:
				want = api.ErrShort
			case count < n:
				want = api.ErrMany
			}
			if b, e := cut.Whole(l...); e != want || len(b) > 0 != (want == api.OK) {
				t.Errorf("%d frames, the count %d: %v, %d, not %d", n, count, b, e, want)
			}
		}
	}
}

// P12.3: just version, kind, number, index and count are asked for: heads and payloads of frames that may not be are taken by the same words.
func TestWholeOfOtherFrames(t *testing.T) {
	h := head.Head{Version: -3, Kind: 99, Seq: 4}
	var l []frame.Frame
	var want []byte
	for i, n := range []int{0, 3, 0, 0, 300, 1, 0} {
		h.Index, h.Count = i, 7
		l = append(l, frame.Frame{Head: h, Payload: row(n)})
		want = append(want, row(n)...)
	}
	if b, e := cut.Whole(l...); e != api.OK || !bytes.Equal(b, want) {
		t.Errorf("%d bytes, %d, not %d", len(b), e, len(want))
	}
	wholes(t, l[:6])
	none := of(2, 0, 1)
	none[0].Payload, none[1].Payload = nil, []byte{}
	if b, e := cut.Whole(none...); e != api.OK || len(b) > 0 {
		t.Errorf("payloads of no bytes: %v, %d", b, e)
	}
	if b, e := cut.Whole(of(0)...); e != api.ErrShort || len(b) > 0 {
		t.Errorf("no frames: %v, %d", b, e)
	}
	var many []frame.Frame
	for i := range 300 { // more than a head may tell
		many = append(many, of(300, i)...)
	}
	wholes(t, many)
	wholes(t, many[:256])
}

// P12.3, the rules on memory: the frames and their payloads are neither kept nor changed, and a body is new memory, also that of one frame.
func TestWholeIsNew(t *testing.T) {
	for _, room := range []int{1, 3, 4, 12, 242} {
		l, _ := cut.Frames(head.Head{Version: 1, Kind: 2, Seq: 3}, row(12), room)
		for i, f := range l { // with spare room
			l[i].Payload = append(f.Payload, 1, 2, 3, 4, 5)[:len(f.Payload)]
		}
		heads := slices.Clone(l)
		var lists, were [][]byte
		for _, f := range l {
			lists = append(lists, f.Payload[:len(f.Payload)+5])
			were = append(were, slices.Clone(lists[len(lists)-1]))
		}
		a, _ := cut.Whole(l...)
		b, _ := cut.Whole(l...)
		if !same(lists, were) || !sameFrames(l, heads) {
			t.Errorf("%d: changed to %v", room, l)
		}
		if !bytes.Equal(a, row(12)) || !bytes.Equal(b, row(12)) {
			t.Errorf("%d: %v, %v", room, a, b)
		}
		apart(t, "Whole", append(lists, a, b))
	}
	shared := row(9) // payloads may share memory
	l := of(3, 0, 1, 2)
	l[0].Payload, l[1].Payload, l[2].Payload = shared[:4], shared[2:6], shared
	if b, e := cut.Whole(l...); e != api.OK || !bytes.Equal(b, slices.Concat(shared[:4], shared[2:6], shared)) {
		t.Errorf("payloads that share memory: %v, %d", b, e)
	}
}
