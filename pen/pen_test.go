package pen_test

import (
	"bytes"
	"math"
	"slices"
	"testing"

	"cuneiform/api"
	"cuneiform/pen"
)

// write: one write, and the bytes that it has to put.
type write struct {
	name string
	do   func(p *pen.Pen) api.Errno
	want []byte
}

// number: a number's bytes, by division.
func number(n uint64) []byte {
	if n < 128 {
		return []byte{byte(n)}
	}
	return append([]byte{byte(n%128) + 128}, number(n/128)...)
}

// writes: each of the seven, with ordinary values and those at the edges.
func writes() []write {
	var out []write
	add := func(name string, want []byte, do func(p *pen.Pen) api.Errno) {
		out = append(out, write{name, do, want})
	}
	for _, n := range []uint8{0, 1, 127, 128, 255} {
		add("U8", []byte{n}, func(p *pen.Pen) api.Errno { return p.U8(n) })
	}
	for _, x := range []struct {
		n    uint16
		want []byte
	}{{0, []byte{0, 0}}, {1, []byte{1, 0}}, {255, []byte{255, 0}}, {256, []byte{0, 1}}, {258, []byte{2, 1}}, {65535, []byte{255, 255}}} {
		add("U16", x.want, func(p *pen.Pen) api.Errno { return p.U16(x.n) })
	}
	for _, x := range []struct {
		n    uint32
		want []byte
	}{
		{0, []byte{0, 0, 0, 0}}, {0x01020304, []byte{4, 3, 2, 1}}, {0xff, []byte{255, 0, 0, 0}}, {0x8000, []byte{0, 128, 0, 0}},
		{0x80000000, []byte{0, 0, 0, 128}}, {0xff0000, []byte{0, 0, 255, 0}}, {math.MaxUint32, []byte{255, 255, 255, 255}},
	} {
		add("U32", x.want, func(p *pen.Pen) api.Errno { return p.U32(x.n) })
	}
	for _, l := range [][]uint64{nil, {}, {0}, {127}, {128}, {300}, {5, 300}, {300, 0, 1 << 63}, {1<<14 - 1, 1 << 14}, {math.MaxUint64}} {
		var want []byte
		for _, n := range l {
			want = append(want, number(n)...)
		}
		add("Number", want, func(p *pen.Pen) api.Errno { return p.Number(l...) })
	}
	for _, x := range []struct {
		l    []int64
		want []byte
	}{
		{nil, nil}, {[]int64{}, nil}, {[]int64{0}, []byte{0}}, {[]int64{-1, 1}, []byte{1, 2}}, {[]int64{-3}, []byte{5}},
		{[]int64{63, -64, 64, -65}, []byte{126, 127, 128, 1, 129, 1}},
		{[]int64{150, -2}, []byte{172, 2, 3}},
		{[]int64{math.MaxInt64}, number(math.MaxUint64 - 1)}, {[]int64{math.MinInt64}, number(math.MaxUint64)},
	} {
		add("Signed", x.want, func(p *pen.Pen) api.Errno { return p.Signed(x.l...) })
	}
	for _, k := range []int{0, 1, 2, 127, 128, 300} {
		b := make([]byte, k)
		for i := range b {
			b[i] = byte(i*7 + k)
		}
		add("Raw", b, func(p *pen.Pen) api.Errno { return p.Raw(b) })
		add("Field", append(number(uint64(k)), b...), func(p *pen.Pen) api.Errno { return p.Field(b) })
	}
	add("Raw", nil, func(p *pen.Pen) api.Errno { return p.Raw(nil) })
	add("Field", []byte{0}, func(p *pen.Pen) api.Errno { return p.Field(nil) })
	return out
}

// has: whether a pen tells of itself what it has to.
func has(t *testing.T, what string, p *pen.Pen, b []byte, left int, e api.Errno) {
	t.Helper()
	if got := p.Bytes(); !bytes.Equal(got, b) {
		t.Errorf("%s: bytes %v, not %v", what, got, b)
	}
	if p.Len() != len(b) || p.Left() != left || p.Err() != e {
		t.Errorf("%s: Len %d, Left %d, Err %d, not %d, %d, %d", what, p.Len(), p.Left(), p.Err(), len(b), left, e)
	}
}

// full: whether a pen is full for good, and keeps what it has.
func full(t *testing.T, what string, p *pen.Pen, b []byte) {
	t.Helper()
	for _, w := range writes() {
		if e := w.do(p); e != api.ErrLong {
			t.Errorf("%s: then %s of %v: %d", what, w.name, w.want, e)
		}
		has(t, what, p, b, 0, api.ErrLong)
	}
}

// P2.1: what each write puts, and nothing but that.
func TestEachWrite(t *testing.T) {
	for _, w := range writes() {
		p := pen.New(1000)
		if e := w.do(p); e != api.OK {
			t.Errorf("%s of %v: %d", w.name, w.want, e)
		}
		has(t, w.name, p, w.want, 1000-len(w.want), api.OK)
	}
}

// P2.1: a room that is just enough, and one byte short, at the beginning and behind other bytes.
func TestJustEnough(t *testing.T) {
	for _, w := range writes() {
		for _, ahead := range [][]byte{nil, {9}, {9, 8, 7, 6, 5}} {
			begin := func(room int) *pen.Pen {
				p := pen.New(room)
				if e := p.Raw(ahead); e != api.OK {
					t.Errorf("Raw of %v to a room of %d: %d", ahead, room, e)
				}
				return p
			}
			all := append(slices.Clone(ahead), w.want...)
			p := begin(len(all))
			if e := w.do(p); e != api.OK {
				t.Errorf("%s of %v, just enough: %d", w.name, w.want, e)
			}
			has(t, w.name+", just enough", p, all, 0, api.OK)
			if len(w.want) == 0 {
				continue // of nothing no byte can be short
			}
			q := begin(len(all) - 1)
			has(t, w.name+", ahead of it", q, ahead, len(w.want)-1, api.OK)
			if e := w.do(q); e != api.ErrLong {
				t.Errorf("%s of %v, one byte short: %d", w.name, w.want, e)
			}
			full(t, w.name+", one byte short", q, ahead)
		}
	}
}

// P2.1: no room, and a room below 0.
func TestNoRoom(t *testing.T) {
	for _, room := range []int{0, -1, -3, math.MinInt} {
		for _, w := range writes() {
			p := pen.New(room)
			has(t, "new", p, nil, 0, api.OK)
			want := api.ErrLong
			if len(w.want) == 0 {
				want = api.OK
			}
			if e := w.do(p); e != want {
				t.Errorf("a room of %d: %s of %v: %d", room, w.name, w.want, e)
			}
			has(t, w.name, p, nil, 0, want)
		}
	}
}

// P2.1: what takes the last byte fills the room, but the pen isn't full till a write had no room.
func TestLastByteIsNotFull(t *testing.T) {
	p := pen.New(4)
	if e := p.U16(258); e != api.OK {
		t.Error(e)
	}
	if e := p.Number(300); e != api.OK {
		t.Error(e)
	}
	b := []byte{2, 1, 172, 2}
	has(t, "at its end", p, b, 0, api.OK)
	for _, e := range []api.Errno{p.Number(), p.Signed(), p.Raw(nil), p.Raw([]byte{})} {
		if e != api.OK {
			t.Errorf("nothing, at the room's end: %d", e)
		}
	}
	has(t, "at its end", p, b, 0, api.OK)
	if e := p.U8(0); e != api.ErrLong {
		t.Error(e)
	}
	full(t, "beyond its end", p, b)
}

// P2.1: of lists, and of a field, all or nothing is written, also if a part of it had room.
func TestAllOrNone(t *testing.T) {
	for _, x := range []struct {
		name string
		do   func(p *pen.Pen) api.Errno
	}{
		{"Number", func(p *pen.Pen) api.Errno { return p.Number(1, 2, 300) }},
		{"Signed", func(p *pen.Pen) api.Errno { return p.Signed(1, 2, -300) }},
		{"Raw", func(p *pen.Pen) api.Errno { return p.Raw([]byte{1, 2, 3, 4}) }},
		{"Field", func(p *pen.Pen) api.Errno { return p.Field([]byte{1, 2, 3}) }},
		{"U32", func(p *pen.Pen) api.Errno { return p.U32(5) }},
	} {
		for room := 1; room < 5; room++ {
			p := pen.New(room)
			p.U8(6)
			if e := x.do(p); e != api.ErrLong {
				t.Errorf("%s, %d left: %d", x.name, room-1, e)
			}
			full(t, x.name, p, []byte{6})
		}
	}
}

// P2.1, P2.3: rows of writes to rooms of each size: bytes come one behind the other, never more than there is room.
func TestRows(t *testing.T) {
	all := writes()
	for room := range 400 {
		p := pen.New(room)
		var b []byte
		is := api.OK
		for i := range 30 {
			w := all[(room*31+i*i*7+i*11)%len(all)]
			if is == api.OK && len(b)+len(w.want) > room {
				is = api.ErrLong
			}
			if is == api.OK {
				b = append(b, w.want...)
			}
			if e := w.do(p); e != is {
				t.Fatalf("room %d, write %d, %s of %v: %d, not %d", room, i, w.name, w.want, e, is)
			}
			left := room - len(b)
			if is != api.OK {
				left = 0
			}
			has(t, w.name, p, b, left, is)
			if p.Len() > room {
				t.Fatalf("%d bytes in a room of %d", p.Len(), room)
			}
		}
	}
}

// P2.1: a great room takes no memory ahead, and its bounds don't run over.
func TestGreatRoom(t *testing.T) {
	p := pen.New(math.MaxInt)
	if e := p.Field([]byte{7}); e != api.OK {
		t.Error(e)
	}
	has(t, "a great room", p, []byte{1, 7}, math.MaxInt-2, api.OK)
	long := bytes.Repeat([]byte{3}, 70000)
	q := pen.New(70003)
	if e := q.Field(long); e != api.OK {
		t.Error(e)
	}
	has(t, "a long field", q, append(number(70000), long...), 0, api.OK)
}

// P2.3: a nil pen.
func TestNil(t *testing.T) {
	var p *pen.Pen
	for _, w := range writes() {
		if e := w.do(p); e != api.ErrArg {
			t.Errorf("nil: %s of %v: %d", w.name, w.want, e)
		}
		has(t, "nil", p, nil, 0, api.ErrArg)
	}
	if pen.New(0) == nil || pen.New(-1) == nil {
		t.Error("New: nil")
	}
}

// The rules on memory: what is handed in is neither kept nor changed, nor its spare room.
func TestHandedInIsLeft(t *testing.T) {
	room := []byte{1, 2, 3, 4, 5}
	p := pen.New(20)
	p.Raw(room[:2])
	p.Field(room[:3])
	p.U32(0)
	if !bytes.Equal(room, []byte{1, 2, 3, 4, 5}) {
		t.Errorf("changed to %v", room)
	}
	clear(room)
	has(t, "bytes that were changed behind the call", p, []byte{1, 2, 3, 1, 2, 3, 0, 0, 0, 0}, 10, api.OK)
	l, s := []uint64{1, 300, 2}, []int64{-1, 300, 2}
	p.Number(l[:2]...)
	p.Signed(s[:2]...)
	if !slices.Equal(l, []uint64{1, 300, 2}) || !slices.Equal(s, []int64{-1, 300, 2}) {
		t.Errorf("changed to %v, %v", l, s)
	}
}

// The rules on memory: answers of Bytes are new, and two pens share none.
func TestAnswersAreNew(t *testing.T) {
	p, q := pen.New(20), pen.New(20)
	for _, n := range []uint8{1, 2, 3} {
		p.U8(n)
		q.U8(n + 10)
	}
	a, b := p.Bytes(), p.Bytes()
	clear(a[:cap(a)])
	if !bytes.Equal(b, []byte{1, 2, 3}) {
		t.Errorf("answers share memory: %v", b)
	}
	p.Raw([]byte{4, 5})
	if !bytes.Equal(b, []byte{1, 2, 3}) {
		t.Errorf("an answer is changed by a later write: %v", b)
	}
	has(t, "one", p, []byte{1, 2, 3, 4, 5}, 15, api.OK)
	has(t, "the other", q, []byte{11, 12, 13}, 17, api.OK)
}
