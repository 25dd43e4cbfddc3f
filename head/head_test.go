package head_test

import (
	"bytes"
	"math"
	"slices"
	"testing"

	"cuneiform/api"
	"cuneiform/head"
)

// seqs: numbers of which each byte is told apart, and the bounds.
func seqs() []uint32 {
	return []uint32{0, 1, 2, 77, 255, 256, 258, 0x04030201, 0xfffefdfc, math.MaxInt32, 1 << 31, math.MaxUint32 - 1, math.MaxUint32}
}

// around: numbers just within 1 to most, just outside, and far outside; among them some that are within but for what a byte or 32 bits can't hold.
func around(most int) []int {
	return []int{1, 2, most - 1, most, 0, -1, most + 1, 255, 256, 257, 256 + most, -255, -256, 1<<32 + 1, 1<<32 + most, -1<<32 + 1, math.MinInt, math.MinInt + 1, math.MaxInt - 1, math.MaxInt}
}

// errorOf: what Check has to tell, as the chapter's words say it.
func errorOf(h head.Head) api.Errno {
	if h.Version != 1 && h.Version != 2 {
		return api.ErrVersion
	}
	if h.Kind < 1 || h.Kind > 5 {
		return api.ErrKind
	}
	if h.Count < 1 || h.Count > 255 || h.Index < 0 || h.Index >= h.Count {
		return api.ErrForm
	}
	return api.OK
}

// checked: that Check and Bytes tell this error of a head, and beside one no bytes.
func checked(t *testing.T, h head.Head, want api.Errno) {
	t.Helper()
	if e := head.Check(h); e != want {
		t.Errorf("Check(%v): %d, not %d", h, e, want)
	}
	b, e := head.Bytes(h)
	if e != want || want != api.OK && b != nil {
		t.Errorf("Bytes(%v): %v, %d, not %d", h, b, e, want)
	}
}

// parsed: that Parse tells this head and this error of bytes, and Bytes, where there is a head, these bytes of it.
func parsed(t *testing.T, b []byte, want head.Head, is api.Errno) {
	t.Helper()
	if h, e := head.Parse(b); h != want || e != is {
		t.Errorf("Parse(%v): %v, %d, not %v, %d", b, h, e, want, is)
	}
	if is != api.OK {
		return
	}
	if told, e := head.Bytes(want); e != api.OK || !bytes.Equal(told, b) {
		t.Errorf("Bytes(%v): %v, %d, not %v", want, told, e, b)
	}
}

// P7.1, P7.2: heads whose bytes and lines are known.
func TestKnown(t *testing.T) {
	if head.Size != 8 {
		t.Error("Size", head.Size)
	}
	for _, x := range []struct {
		h    head.Head
		b    []byte
		line string
	}{
		{head.Head{Version: 2, Kind: 4, Seq: 258, Index: 0, Count: 3}, []byte{2, 4, 2, 1, 0, 0, 0, 3}, "v 2 k 4 258 0/3"},
		{head.Head{Version: 1, Kind: 1, Seq: 0, Index: 0, Count: 1}, []byte{1, 1, 0, 0, 0, 0, 0, 1}, "v 1 k 1 0 0/1"},
		{head.Head{Version: 2, Kind: 5, Seq: math.MaxUint32, Index: 254, Count: 255}, []byte{2, 5, 255, 255, 255, 255, 254, 255}, "v 2 k 5 4294967295 254/255"},
		{head.Head{Version: 1, Kind: 5, Seq: 0x04030201, Index: 2, Count: 3}, []byte{1, 5, 1, 2, 3, 4, 2, 3}, "v 1 k 5 67305985 2/3"},
		{head.Head{Version: 2, Kind: 2, Seq: 1 << 31, Index: 0, Count: 255}, []byte{2, 2, 0, 0, 0, 128, 0, 255}, "v 2 k 2 2147483648 0/255"},
		{head.Head{Version: 1, Kind: 3, Seq: 0x00ff0000, Index: 127, Count: 128}, []byte{1, 3, 0, 0, 255, 0, 127, 128}, "v 1 k 3 16711680 127/128"},
	} {
		checked(t, x.h, api.OK)
		parsed(t, x.b, x.h, api.OK)
		if l := head.Line(x.h); l != x.line {
			t.Errorf("Line(%v): %s, not %s", x.h, l, x.line)
		}
	}
}

// P7.1: one thing that may not be, just outside and far outside.
func TestOneWrong(t *testing.T) {
	right := head.Head{Version: 1, Kind: 1, Seq: 9, Index: 1, Count: 2}
	checked(t, right, api.OK)
	for _, n := range []int{0, -1, 3, 255, 257, 1<<32 + 1, math.MinInt, math.MaxInt} {
		h := right
		h.Version = n
		checked(t, h, api.ErrVersion)
	}
	for _, n := range []int{0, -1, 6, 255, 257, 1<<32 + 1, math.MinInt, math.MaxInt} {
		h := right
		h.Kind = n
		checked(t, h, api.ErrKind)
	}
	for _, x := range []struct {
		index, count int
		e            api.Errno
	}{
		{0, 0, api.ErrForm}, {-1, 0, api.ErrForm}, {0, -1, api.ErrForm}, {-2, -1, api.ErrForm}, {0, 256, api.ErrForm}, {255, 256, api.ErrForm},
		{0, 257, api.ErrForm}, {0, math.MinInt, api.ErrForm}, {0, math.MaxInt, api.ErrForm}, {math.MaxInt, math.MinInt, api.ErrForm}, {0, 1<<32 + 1, api.ErrForm},
		{-1, 1, api.ErrForm}, {1, 1, api.ErrForm}, {2, 1, api.ErrForm}, {-1, 255, api.ErrForm}, {255, 255, api.ErrForm}, {256, 255, api.ErrForm},
		{256, 2, api.ErrForm}, {1 << 32, 2, api.ErrForm}, {-256, 2, api.ErrForm}, {math.MinInt, 2, api.ErrForm}, {math.MaxInt, 2, api.ErrForm},
		{0, 1, api.OK}, {0, 255, api.OK}, {254, 255, api.OK}, {0, 2, api.OK}, {1, 2, api.OK},
	} {
		h := right
		h.Index, h.Count = x.index, x.count
		checked(t, h, x.e)
	}
}

// P7.1: which error comes first, where more than one thing may not be.
func TestFirstError(t *testing.T) {
	checked(t, head.Head{}, api.ErrVersion)
	checked(t, head.Head{Version: 3, Kind: 6, Index: 7, Count: 7}, api.ErrVersion)
	checked(t, head.Head{Version: 3, Kind: 6, Index: 0, Count: 7}, api.ErrVersion)
	checked(t, head.Head{Version: 0, Kind: 1, Index: -1, Count: 0}, api.ErrVersion)
	checked(t, head.Head{Version: 2, Kind: 6, Index: 7, Count: 7}, api.ErrKind)
	checked(t, head.Head{Version: 1, Kind: 0, Index: 0, Count: 256}, api.ErrKind)
	for _, version := range around(2) {
		for _, kind := range around(5) {
			for _, count := range around(255) {
				for _, index := range append(around(255), around(2)...) {
					h := head.Head{Version: version, Kind: kind, Seq: 5, Index: index, Count: count}
					checked(t, h, errorOf(h))
				}
			}
		}
	}
}

// P7.1: fewer and more than 8 bytes, ahead of what they are.
func TestOtherLengths(t *testing.T) {
	for _, b := range [][]byte{{1, 5, 1, 2, 3, 4, 2, 3, 1, 5, 1, 2, 3, 4, 2, 3}, {2, 1, 0, 0, 0, 0, 0, 1, 0, 0, 0, 0, 0, 0, 0, 0}, {3, 6, 0, 0, 0, 0, 1, 1, 0, 9}, make([]byte, 300)} {
		for n := range len(b) + 1 {
			switch {
			case n < 8:
				parsed(t, b[:n], head.Head{}, api.ErrShort)
			case n > 8:
				parsed(t, b[:n], head.Head{}, api.ErrForm)
			}
		}
	}
	parsed(t, nil, head.Head{}, api.ErrShort)
	parsed(t, []byte{}, head.Head{}, api.ErrShort)
}

// P7.1, P7.3: 8 bytes, of each version and kind, and of each index and count: those of a head that may not be are an error, all others a head that is told by just them.
func TestAllBytes(t *testing.T) {
	look := func(b []byte) {
		h := head.Head{Version: int(b[0]), Kind: int(b[1]), Seq: 0x80fe0703, Index: int(b[6]), Count: int(b[7])}
		e := errorOf(h)
		if e != api.OK {
			h = head.Head{}
		}
		parsed(t, b, h, e)
	}
	for i := range 256 {
		for k := range 256 {
			look([]byte{byte(i), byte(k), 3, 7, 254, 128, 4, 9})
			look([]byte{byte(i), byte(k), 3, 7, 254, 128, 9, 9})
			look([]byte{1, 5, 3, 7, 254, 128, byte(i), byte(k)})
			look([]byte{2, 1, 3, 7, 254, 128, byte(i), byte(k)})
			look([]byte{3, 1, 3, 7, 254, 128, byte(i), byte(k)})
			look([]byte{2, 6, 3, 7, 254, 128, byte(i), byte(k)})
		}
	}
}

// P7.3: heads are parsed as they were told.
func TestToldAndParsed(t *testing.T) {
	for _, version := range []int{1, 2} {
		for kind := 1; kind <= 5; kind++ {
			for _, seq := range seqs() {
				for _, count := range []int{1, 2, 3, 127, 128, 254, 255} {
					for index := range count {
						h := head.Head{Version: version, Kind: kind, Seq: seq, Index: index, Count: count}
						b, e := head.Bytes(h)
						if len(b) != head.Size || e != api.OK {
							t.Fatalf("Bytes(%v): %v, %d", h, b, e)
						}
						parsed(t, b, h, api.OK)
					}
				}
			}
		}
	}
	for bit := range 32 { // each bit of the number has its own place
		h := head.Head{Version: 1, Kind: 1, Seq: 1 << bit, Count: 1}
		want := []byte{1, 1, 0, 0, 0, 0, 0, 1}
		want[2+bit/8] = 1 << (bit % 8)
		parsed(t, want, h, api.OK)
	}
}

// P7.2: lines, also of heads that may not be.
func TestLine(t *testing.T) {
	for _, x := range []struct {
		h    head.Head
		line string
	}{
		{head.Head{Version: 2, Kind: 4, Seq: 77, Index: 0, Count: 3}, "v 2 k 4 77 0/3"},
		{head.Head{}, "v 0 k 0 0 0/0"},
		{head.Head{Version: 1, Kind: 2, Seq: 3, Index: 4, Count: 5}, "v 1 k 2 3 4/5"},
		{head.Head{Version: 10, Kind: 100, Seq: 1000, Index: 10000, Count: 100000}, "v 10 k 100 1000 10000/100000"},
		{head.Head{Version: -1, Kind: -2, Seq: math.MaxUint32, Index: -3, Count: -4}, "v -1 k -2 4294967295 -3/-4"},
		{head.Head{Version: 3, Kind: 6, Seq: 1 << 31, Index: 256, Count: 256}, "v 3 k 6 2147483648 256/256"},
		{head.Head{Version: math.MinInt64, Kind: math.MaxInt64, Seq: math.MaxInt32, Index: math.MinInt64, Count: math.MaxInt64}, "v -9223372036854775808 k 9223372036854775807 2147483647 -9223372036854775808/9223372036854775807"},
	} {
		if l := head.Line(x.h); l != x.line {
			t.Errorf("Line: %s, not %s", l, x.line)
		}
	}
}

// P7.2: whether a head is the last one's, also heads that may not be, and where numbers would go round.
func TestLast(t *testing.T) {
	for count := 1; count <= 255; count++ {
		for index := range count {
			h := head.Head{Version: 2, Kind: 3, Seq: 8, Index: index, Count: count}
			if head.Last(h) != (index == count-1) {
				t.Errorf("Last, %d of %d", index, count)
			}
		}
	}
	for _, x := range []struct {
		index, count int
		last         bool
	}{
		{0, 0, false}, {-1, 0, true}, {1, 1, false}, {-2, -1, true}, {-1, -1, false}, {0, -1, false}, {1, 0, false}, {2, 1, false}, {-1, 1, false},
		{255, 256, true}, {256, 256, false}, {math.MaxInt - 1, math.MaxInt, true}, {math.MinInt, math.MinInt + 1, true}, {math.MaxInt, math.MinInt, false},
		{math.MinInt, math.MaxInt, false}, {math.MaxInt, math.MaxInt, false}, {math.MinInt, math.MinInt, false}, {1 << 32, 1, false}, {0, 1<<32 + 1, false},
	} {
		for _, h := range []head.Head{{Index: x.index, Count: x.count}, {Version: 1, Kind: 1, Seq: 7, Index: x.index, Count: x.count}} {
			if head.Last(h) != x.last {
				t.Errorf("Last(%v): not %t", h, x.last)
			}
		}
	}
}

// P7.2: heads that are alike but for one thing are mates only if that is the index; also heads that may not be.
func TestMates(t *testing.T) {
	for _, a := range []head.Head{
		{Version: 1, Kind: 1, Seq: 0, Index: 0, Count: 1},
		{Version: 2, Kind: 5, Seq: math.MaxUint32, Index: 254, Count: 255},
		{Version: 2, Kind: 4, Seq: 77, Index: 1, Count: 3},
		{},
		{Version: -1, Kind: 9, Seq: 1, Index: 8, Count: -2},
		{Version: math.MinInt, Kind: math.MaxInt, Seq: 2, Index: math.MinInt, Count: math.MaxInt},
	} {
		version, kind, number, count := a, a, a, a
		version.Version ^= 1
		kind.Kind ^= 1
		number.Seq ^= 1
		count.Count ^= 1
		others := []head.Head{version, kind, number, count}
		for _, bit := range []int{8, 31} { // what a byte, or a word, wouldn't tell
			version.Version = a.Version ^ 1<<bit
			kind.Kind = a.Kind ^ 1<<bit
			number.Seq = a.Seq ^ 1<<bit
			count.Count = a.Count ^ 1<<bit
			others = append(others, version, kind, number, count)
		}
		for _, n := range []int{a.Index, a.Index + 1, a.Index - 1, 0, -1, 255, math.MaxInt, math.MinInt} {
			b := a
			b.Index = n
			if !head.Mates(a, b) || !head.Mates(b, a) {
				t.Errorf("no mates: %v, %v", a, b)
			}
			for _, o := range others {
				if head.Mates(b, o) || head.Mates(o, b) {
					t.Errorf("mates: %v, %v", b, o)
				}
			}
		}
	}
}

// The rules on memory: bytes are new ones each time, and what is parsed is neither kept nor changed, its spare room neither.
func TestMemory(t *testing.T) {
	h := head.Head{Version: 2, Kind: 4, Seq: 258, Index: 0, Count: 3}
	want := []byte{2, 4, 2, 1, 0, 0, 0, 3}
	a, _ := head.Bytes(h)
	b, _ := head.Bytes(h)
	clear(a[:cap(a)])
	if !bytes.Equal(b, want) {
		t.Errorf("answers share memory: %v", b)
	}
	_ = append(b[:0], 9, 9, 9, 9, 9, 9, 9, 9, 9)
	if c, _ := head.Bytes(h); !bytes.Equal(c, want) {
		t.Errorf("an answer is kept: %v", c)
	}
	room := append(slices.Clone(want), 5, 6, 7)
	got, e := head.Parse(room[:8])
	if got != h || e != api.OK || !bytes.Equal(room, []byte{2, 4, 2, 1, 0, 0, 0, 3, 5, 6, 7}) {
		t.Errorf("%v, %d: changed to %v", got, e, room)
	}
	clear(room)
	if got != h {
		t.Errorf("kept: %v", got)
	}
}
