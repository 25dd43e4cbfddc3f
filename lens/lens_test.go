package lens_test

import (
	"bytes"
	"fmt"
	"math"
	"slices"
	"strconv"
	"testing"

	"cuneiform/api"
	"cuneiform/lens"
	"cuneiform/pen"
	"cuneiform/varint"
)

// read: one read, what it told as text, and what it has to tell of the bytes that are left: that, how many it takes, or what is wrong.
type read struct {
	name string
	do   func(l *lens.Lens) string
	want func(left []byte) (string, int, api.Errno)
}

func text(x any) string { return fmt.Sprint(x) }

func list(b []byte) string { return fmt.Sprint(append([]byte{}, b...)) } // nil and empty are one

// fixed: what a word of so many bytes has to be, by sums.
func fixed(size int) func(left []byte) (string, int, api.Errno) {
	return func(left []byte) (string, int, api.Errno) {
		if len(left) < size {
			return "0", 0, api.ErrEnd
		}
		n, by := uint64(0), uint64(1)
		for _, c := range left[:size] {
			n += uint64(c) * by
			by *= 256
		}
		return text(n), size, api.OK
	}
}

func words() []read {
	return []read{
		{"U8", func(l *lens.Lens) string { return text(l.U8()) }, fixed(1)},
		{"U16", func(l *lens.Lens) string { return text(l.U16()) }, fixed(2)},
		{"U32", func(l *lens.Lens) string { return text(l.U32()) }, fixed(4)},
	}
}

func number(most uint64) read {
	return read{text(most) + " Number", func(l *lens.Lens) string { return text(l.Number(most)) }, func(left []byte) (string, int, api.Errno) {
		n, size, e := varint.Get(left)
		switch {
		case e != api.OK:
			return "0", 0, e
		case n > most:
			return "0", 0, api.ErrRange
		}
		return text(n), size, api.OK
	}}
}

func signed(least, most int64) read {
	return read{text(least) + " " + text(most) + " Signed", func(l *lens.Lens) string { return text(l.Signed(least, most)) }, func(left []byte) (string, int, api.Errno) {
		z, size, e := varint.Get(left)
		n := varint.Zag(z)
		switch {
		case e != api.OK:
			return "0", 0, e
		case n < least, n > most:
			return "0", 0, api.ErrRange
		}
		return text(n), size, api.OK
	}}
}

func raw(n int) read {
	return read{text(n) + " Raw", func(l *lens.Lens) string { return list(l.Raw(n)) }, func(left []byte) (string, int, api.Errno) {
		switch {
		case n < 0:
			return "[]", 0, api.ErrRange
		case len(left) < n:
			return "[]", 0, api.ErrEnd
		}
		return list(left[:n]), n, api.OK
	}}
}

func field(most int) read {
	return read{text(most) + " Field", func(l *lens.Lens) string { return list(l.Field(most)) }, func(left []byte) (string, int, api.Errno) {
		n, size, e := varint.Get(left)
		switch {
		case e != api.OK:
			return "[]", 0, e
		case n > 0 && (most < 0 || n > uint64(most)):
			return "[]", 0, api.ErrMany
		case n > uint64(len(left)-size):
			return "[]", 0, api.ErrEnd
		}
		return list(left[size : size+int(n)]), size + int(n), api.OK
	}}
}

func rest() read {
	return read{"Rest", func(l *lens.Lens) string { return list(l.Rest()) }, func(left []byte) (string, int, api.Errno) {
		return list(left), len(left), api.OK
	}}
}

// reads: each of the eight, with ordinary bounds and those at the edges.
func reads() []read {
	out := append(words(), rest())
	for _, most := range []uint64{0, 1, 4, 5, 127, 128, 299, 300, 1000, math.MaxInt64, 1 << 63, math.MaxUint64 - 1, math.MaxUint64} {
		out = append(out, number(most))
	}
	for _, x := range [][2]int64{{0, 0}, {-1, 0}, {-3, 2}, {-2, 2}, {3, -3}, {-150, 150}, {150, 150}, {math.MinInt64, -1}, {0, math.MaxInt64}, {math.MinInt64 + 1, math.MaxInt64 - 1}, {math.MinInt64, math.MaxInt64}} {
		out = append(out, signed(x[0], x[1]))
	}
	for _, n := range []int{math.MinInt, -2, -1, 0, 1, 2, 3, 5, 128, 300, math.MaxInt} {
		out = append(out, raw(n), field(n))
	}
	return out
}

// streams: bytes to read, right and wrong.
func streams() [][]byte {
	full := bytes.Repeat([]byte{255}, 9)
	with := func(b []byte, l ...byte) []byte { return append(slices.Clone(b), l...) }
	long := with(varint.Put(300), bytes.Repeat([]byte{7}, 300)...)
	out := [][]byte{
		nil, {}, {0}, {1}, {255}, {128}, {128, 0}, {128, 0, 1, 2, 3}, {5}, {5, 1, 2}, {0, 0, 0, 0}, {1, 2}, {2, 1}, {3, 1, 2, 3}, {3, 1, 2},
		{1, 2, 3}, {1, 2, 3, 4}, {4, 3, 2, 1, 0}, {255, 254, 253, 252, 251}, {0, 0, 0, 128}, {172, 2}, {172, 2, 9}, {171, 2}, {173, 2},
		{2, 1, 172, 2, 9}, {5, 172, 2, 128}, full, with(full, 1), with(full, 1, 7, 8), with(full, 0), with(full, 2), with(full, 128, 1),
		with(full[:8], 127, 3), with(bytes.Repeat([]byte{128}, 9), 1), with([]byte{254}, with(full[1:], 1)...), long, long[:301],
		with(long, 9), {127, 1}, {128, 1, 0}, with([]byte{128, 1}, bytes.Repeat([]byte{6}, 128)...), {6, 1, 2, 3, 4, 5, 6},
	}
	return out
}

// has: whether a lens of these bytes tells of itself what it has to.
func has(t *testing.T, what string, l *lens.Lens, size, place int, e api.Errno) {
	t.Helper()
	if l.Left() != size-place || l.Place() != place || l.Err() != e {
		t.Errorf("%s: Left %d, Place %d, Err %d, not %d, %d, %d", what, l.Left(), l.Place(), l.Err(), size-place, place, e)
	}
	end := e
	if e == api.OK && place < size {
		end = api.ErrForm
	}
	if l.End() != end || l.Place() != place || l.Err() != e {
		t.Errorf("%s: End %d, not %d, then Place %d, Err %d", what, l.End(), end, l.Place(), l.Err())
	}
}

// P3.1, Rest of P3.2: each read of each stream, at its beginning and behind other bytes.
func TestEachRead(t *testing.T) {
	for _, b := range streams() {
		for _, ahead := range [][]byte{nil, {9}, {200, 1, 2}} {
			for _, r := range reads() {
				all := append(slices.Clone(ahead), b...)
				l := lens.New(all)
				l.Raw(len(ahead))
				want, size, e := r.want(b)
				what := fmt.Sprintf("%s of %v behind %v", r.name, b, ahead)
				if got := r.do(l); got != want {
					t.Errorf("%s: %s, not %s", what, got, want)
				}
				has(t, what, l, len(all), len(ahead)+size, e)
			}
		}
	}
}

// P3.1: words that take just what is left, and one byte more; the lowest byte first.
func TestWordsOfBytes(t *testing.T) {
	l := lens.New([]byte{7, 2, 1, 4, 3, 2, 1})
	if a, b, c := l.U8(), l.U16(), l.U32(); a != 7 || b != 258 || c != 0x01020304 {
		t.Error(a, b, c)
	}
	has(t, "just what is left", l, 7, 7, api.OK)
	for i, r := range words() {
		size := []int{1, 2, 4}[i]
		b := []byte{255, 255, 255, 255}
		l := lens.New(b[:size])
		if got := r.do(l); got != text(uint64(1)<<(8*size)-1) {
			t.Errorf("%s: %s", r.name, got)
		}
		has(t, r.name, l, size, size, api.OK)
		s := lens.New(b[:size-1])
		if got := r.do(s); got != "0" {
			t.Errorf("%s, a byte short: %s", r.name, got)
		}
		has(t, r.name+", a byte short", s, size-1, 0, api.ErrEnd)
	}
}

// P3.1: a number that is just most, and one more; Get's errors ahead of ErrRange.
func TestNumber(t *testing.T) {
	for _, n := range []uint64{1, 5, 127, 128, 300, 1 << 32, 1 << 63, math.MaxUint64} {
		b := varint.Put(n)
		l := lens.New(b)
		if got := l.Number(n); got != n {
			t.Errorf("Number(%d) of it: %d", n, got)
		}
		has(t, "just most", l, len(b), len(b), api.OK)
		m := lens.New(b)
		if got := m.Number(n - 1); got != 0 {
			t.Errorf("Number(%d) of one more: %d", n-1, got)
		}
		has(t, "one more", m, len(b), 0, api.ErrRange)
	}
	z := lens.New([]byte{0, 0})
	if z.Number(0) != 0 {
		t.Error("nought")
	}
	has(t, "nought", z, 2, 1, api.OK)
	for _, x := range []struct {
		b []byte
		e api.Errno
	}{{nil, api.ErrEnd}, {[]byte{128}, api.ErrEnd}, {[]byte{129, 0}, api.ErrForm}, {bytes.Repeat([]byte{255}, 10), api.ErrForm}, {bytes.Repeat([]byte{255}, 9), api.ErrEnd}} {
		for _, l := range []*lens.Lens{lens.New(x.b), lens.New(x.b), lens.New(x.b)} {
			l.Number(0)
			has(t, fmt.Sprint("Number of ", x.b), l, len(x.b), 0, x.e)
		}
		s, f := lens.New(x.b), lens.New(x.b)
		s.Signed(1, 0)
		f.Field(-1)
		has(t, fmt.Sprint("Signed of ", x.b), s, len(x.b), 0, x.e)
		has(t, fmt.Sprint("Field of ", x.b), f, len(x.b), 0, x.e)
	}
}

// P3.1: signed ones that are just least or most, below least and above most.
func TestSigned(t *testing.T) {
	for _, x := range []struct {
		n, least, most int64
		e              api.Errno
	}{
		{-3, -3, 2, api.OK}, {-3, -2, 2, api.ErrRange}, {-3, -3, -3, api.OK}, {-3, -4, -4, api.ErrRange}, {-3, -2, -4, api.ErrRange},
		{2, -3, 2, api.OK}, {2, -3, 1, api.ErrRange}, {2, 3, 9, api.ErrRange}, {0, 0, 0, api.OK}, {0, 1, -1, api.ErrRange}, {-1, 0, 0, api.ErrRange}, {1, 0, 0, api.ErrRange},
		{math.MinInt64, math.MinInt64, math.MinInt64, api.OK}, {math.MinInt64, math.MinInt64 + 1, math.MaxInt64, api.ErrRange},
		{math.MaxInt64, math.MinInt64, math.MaxInt64, api.OK}, {math.MaxInt64, math.MinInt64, math.MaxInt64 - 1, api.ErrRange},
		{-150, -1000, 1000, api.OK}, {150, -149, 149, api.ErrRange},
	} {
		b := varint.Put(varint.Zig(x.n))
		l := lens.New(b)
		want, place := x.n, len(b)
		if x.e != api.OK {
			want, place = 0, 0
		}
		what := fmt.Sprintf("Signed(%d, %d) of %d", x.least, x.most, x.n)
		if got := l.Signed(x.least, x.most); got != want {
			t.Errorf("%s: %d", what, got)
		}
		has(t, what, l, len(b), place, x.e)
	}
}

// P3.1: Raw of what is left, of one byte more, of nothing, and of a count below 0, also where no bytes are left.
func TestRaw(t *testing.T) {
	for _, x := range []struct {
		b    []byte
		n    int
		want []byte
		e    api.Errno
	}{
		{[]byte{1, 2, 3}, 3, []byte{1, 2, 3}, api.OK}, {[]byte{1, 2, 3}, 2, []byte{1, 2}, api.OK}, {[]byte{1, 2, 3}, 4, nil, api.ErrEnd},
		{[]byte{1, 2, 3}, 0, nil, api.OK}, {[]byte{1, 2, 3}, -1, nil, api.ErrRange}, {[]byte{1, 2, 3}, math.MinInt, nil, api.ErrRange},
		{[]byte{1, 2, 3}, math.MaxInt, nil, api.ErrEnd}, {nil, 0, nil, api.OK}, {nil, 1, nil, api.ErrEnd}, {nil, -1, nil, api.ErrRange},
	} {
		l := lens.New(x.b)
		if got := l.Raw(x.n); !bytes.Equal(got, x.want) {
			t.Errorf("Raw(%d) of %v: %v", x.n, x.b, got)
		}
		has(t, fmt.Sprintf("Raw(%d) of %v", x.n, x.b), l, len(x.b), len(x.want), x.e)
	}
}

// P3.1: fields: ErrMany goes ahead of ErrEnd; most below 0 is 0.
func TestField(t *testing.T) {
	greatest := varint.Put(math.MaxUint64)
	for _, x := range []struct {
		b     []byte
		most  int
		want  []byte
		place int
		e     api.Errno
	}{
		{[]byte{2, 7, 8, 9}, 2, []byte{7, 8}, 3, api.OK}, {[]byte{2, 7, 8, 9}, 3, []byte{7, 8}, 3, api.OK}, {[]byte{2, 7, 8, 9}, 1, nil, 0, api.ErrMany},
		{[]byte{2, 7, 8}, 2, []byte{7, 8}, 3, api.OK}, {[]byte{2, 7}, 2, nil, 0, api.ErrEnd}, {[]byte{2, 7}, 1, nil, 0, api.ErrMany}, {[]byte{2}, 2, nil, 0, api.ErrEnd},
		{[]byte{0}, 0, nil, 1, api.OK}, {[]byte{0}, -1, nil, 1, api.OK}, {[]byte{0, 5}, math.MinInt, nil, 1, api.OK}, {[]byte{1, 5}, 0, nil, 0, api.ErrMany},
		{[]byte{1, 5}, -1, nil, 0, api.ErrMany}, {[]byte{1, 5}, math.MinInt, nil, 0, api.ErrMany}, {[]byte{1}, -1, nil, 0, api.ErrMany},
		{greatest, math.MaxInt, nil, 0, api.ErrMany}, {varint.Put(1 << 63), math.MaxInt, nil, 0, api.ErrMany}, {varint.Put(math.MaxInt), math.MaxInt, nil, 0, api.ErrEnd},
		{varint.Put(math.MaxInt), math.MaxInt - 1, nil, 0, api.ErrMany}, {greatest, -1, nil, 0, api.ErrMany}, {varint.Put(1<<32 + 1), 5, nil, 0, api.ErrMany},
		{nil, 5, nil, 0, api.ErrEnd}, {[]byte{128, 0}, 5, nil, 0, api.ErrForm},
	} {
		l := lens.New(x.b)
		what := fmt.Sprintf("Field(%d) of %v", x.most, x.b)
		if got := l.Field(x.most); !bytes.Equal(got, x.want) {
			t.Errorf("%s: %v", what, got)
		}
		has(t, what, l, len(x.b), x.place, x.e)
	}
}

// P3.1: the first error stays: each later read has it, answers zero and leaves the place, also one that would have another error, or none.
func TestFirstErrorStays(t *testing.T) {
	b := []byte{9, 5, 1, 2, 3, 4, 5, 6}
	for _, x := range []struct {
		e  api.Errno
		do func(l *lens.Lens)
	}{
		{api.ErrEnd, func(l *lens.Lens) { l.Raw(8) }},
		{api.ErrRange, func(l *lens.Lens) { l.Raw(-1) }},
		{api.ErrRange, func(l *lens.Lens) { l.Number(4) }},
		{api.ErrRange, func(l *lens.Lens) { l.Signed(0, 9) }},
		{api.ErrMany, func(l *lens.Lens) { l.Field(4) }},
	} {
		for _, first := range reads() {
			l := lens.New(b)
			l.U8()
			x.do(l)
			has(t, "the first", l, len(b), 1, x.e)
			for _, r := range append([]read{first}, reads()...) {
				zero, _, _ := r.want(nil)
				if got := r.do(l); got != zero {
					t.Errorf("behind %d, %s: %s", x.e, r.name, got)
				}
				has(t, r.name, l, len(b), 1, x.e)
			}
			for _, size := range []int{1, 2, 4} {
				for n := range l.Words(size) {
					t.Errorf("behind %d, a word: %d", x.e, n)
				}
			}
			has(t, "words", l, len(b), 1, x.e)
		}
	}
	form := lens.New([]byte{128, 0, 1})
	form.Number(5)
	form.U8()
	form.Raw(9)
	has(t, "ErrForm", form, 3, 0, api.ErrForm)
}

// P3.1, P3.2: rows of reads, one behind the other, against what each has to tell.
func TestRows(t *testing.T) {
	all := reads()
	var b []byte
	for i := range 90 {
		b = append(b, streams()[i*7%len(streams())]...)
		b = append(b, byte(i*i), byte(i), 1)
	}
	for row := range 3000 {
		l := lens.New(b[row%50:])
		left, place, is := b[row%50:], 0, api.OK
		for i := range 40 {
			r := all[(row*31+i*i*7+i*11+row*row)%len(all)]
			if _, _, e := r.want(left); e != api.OK && (row+i)%9 > 0 {
				continue // else the rows would soon end
			}
			want, _, _ := r.want(nil)
			if is == api.OK {
				var size int
				want, size, is = r.want(left)
				left, place = left[size:], place+size
			}
			if got := r.do(l); got != want {
				t.Fatalf("row %d, read %d, %s: %s, not %s", row, i, r.name, got, want)
			}
			has(t, r.name, l, place+len(left), place, is)
		}
	}
}

// P3.2: Rest takes all, then nothing.
func TestRest(t *testing.T) {
	l := lens.New([]byte{1, 2, 3})
	l.U8()
	if b := l.Rest(); !bytes.Equal(b, []byte{2, 3}) {
		t.Error(b)
	}
	has(t, "Rest", l, 3, 3, api.OK)
	if b := l.Rest(); len(b) > 0 {
		t.Error(b)
	}
	has(t, "Rest again", l, 3, 3, api.OK)
	if l.U8() != 0 || l.Err() != api.ErrEnd {
		t.Error("behind Rest", l.Err())
	}
}

// P3.2: End is ErrForm while bytes are left, which isn't the lens's error: it reads on.
func TestEnd(t *testing.T) {
	l := lens.New([]byte{2, 1, 172, 2, 9})
	if n := l.U16(); n != 258 {
		t.Error(n)
	}
	if n := l.Number(1000); n != 300 {
		t.Error(n)
	}
	if l.End() != api.ErrForm || l.Err() != api.OK || l.Place() != 4 || l.Left() != 1 {
		t.Error(l.End(), l.Err(), l.Place(), l.Left())
	}
	if n := l.U32(); n != 0 || l.Err() != api.ErrEnd || l.End() != api.ErrEnd {
		t.Error(n, l.Err(), l.End())
	}
	m := lens.New([]byte{7})
	if m.End() != api.ErrForm || m.U8() != 7 || m.End() != api.OK || m.End() != api.OK || m.Err() != api.OK {
		t.Error(m.End(), m.Err())
	}
}

func given(l *lens.Lens, size int) []uint32 { return slices.Collect(l.Words(size)) }

// P3.2: words of each size, of rows of each length: the bytes that make no whole word are left, without an error.
func TestWords(t *testing.T) {
	b := []byte{1, 0, 2, 255, 0, 0, 0, 128, 4, 3, 2, 1, 9, 255, 255, 255, 255}
	for begin := range b {
		for end := begin; end <= len(b); end++ {
			for i, size := range []int{1, 2, 4} {
				l, single := lens.New(b[:end]), lens.New(b[begin:end])
				l.Raw(begin)
				var want []uint32
				for range (end - begin) / size {
					n, _ := strconv.ParseUint(words()[i].do(single), 10, 32)
					want = append(want, uint32(n))
				}
				what := fmt.Sprintf("Words(%d) of %v", size, b[begin:end])
				if got := given(l, size); !slices.Equal(got, want) {
					t.Errorf("%s: %v, not %v", what, got, want)
				}
				has(t, what, l, end, begin+len(want)*size, api.OK)
			}
		}
	}
	if got := given(lens.New([]byte{1, 0, 2, 0, 3}), 2); !slices.Equal(got, []uint32{1, 2}) {
		t.Error(got)
	}
	if got := given(lens.New([]byte{4, 3, 2, 1, 255, 255, 255, 255}), 4); !slices.Equal(got, []uint32{0x01020304, math.MaxUint32}) {
		t.Error(got)
	}
}

// P3.2: words of another size are none, and no error.
func TestWordsOfAnotherSize(t *testing.T) {
	for _, size := range []int{math.MinInt, -4, -2, -1, 0, 3, 5, 6, 8, 256, 257, 258, 1<<32 + 1, math.MaxInt} {
		for _, b := range [][]byte{nil, {1}, bytes.Repeat([]byte{3}, 600)} {
			l := lens.New(b)
			if l.Words(size) == nil {
				t.Errorf("Words(%d) is nil", size)
			}
			for n := range l.Words(size) {
				t.Fatalf("Words(%d): %d", size, n)
			}
			has(t, fmt.Sprintf("Words(%d)", size), l, len(b), 0, api.OK)
		}
	}
}

// P3.2: a loop over words may be left ahead of its end: the place is behind the last word that was given, and a later loop goes on there.
func TestWordsLeft(t *testing.T) {
	b := []byte{1, 0, 2, 0, 3, 0, 4, 0, 5}
	for most := 1; most <= 4; most++ {
		l := lens.New(b)
		seq := l.Words(2)
		has(t, "not ranged over yet", l, len(b), 0, api.OK)
		var got []uint32
		for n := range seq {
			got = append(got, n)
			has(t, "within", l, len(b), 2*len(got), api.OK)
			if len(got) == most {
				break
			}
		}
		if !slices.Equal(got, []uint32{1, 2, 3, 4}[:most]) {
			t.Errorf("the first %d: %v", most, got)
		}
		has(t, "left", l, len(b), 2*most, api.OK)
		if got = slices.Collect(seq); !slices.Equal(got, []uint32{1, 2, 3, 4}[most:]) {
			t.Errorf("behind the first %d: %v", most, got)
		}
		has(t, "at the end", l, len(b), 8, api.OK)
		if got = given(l, 1); !slices.Equal(got, []uint32{5}) {
			t.Errorf("the last byte: %v", got)
		}
	}
}

// P3.2: reads within the loop: the next word begins at the place, and an error ends the loop.
func TestReadsWithinWords(t *testing.T) {
	l := lens.New([]byte{1, 9, 2, 9, 3, 9, 4})
	var got []uint32
	for n := range l.Words(1) {
		got = append(got, n)
		if n < 3 {
			l.U8()
		} else {
			l.Raw(-1)
		}
	}
	if !slices.Equal(got, []uint32{1, 2, 3}) {
		t.Error(got)
	}
	has(t, "within", l, 7, 5, api.ErrRange)
}

// P3.3: what a pen wrote is read as it was.
func TestWhatAPenWrote(t *testing.T) {
	p := pen.New(2000)
	nums := []uint64{0, 1, 127, 128, 300, 1 << 32, 1 << 63, math.MaxUint64}
	signs := []int64{0, -1, 1, -64, 64, math.MinInt64, math.MaxInt64}
	long := bytes.Repeat([]byte{200, 7, 0}, 60)
	for i := range 3 {
		p.U8(uint8(200 + i))
		p.U16(uint16(60000 + i))
		p.U32(uint32(4000000000 + i))
		p.Number(nums...)
		p.Signed(signs...)
		p.Raw(long[:i])
		p.Field(long[i:])
		p.Field(nil)
	}
	if p.Err() != api.OK {
		t.Fatal(p.Err())
	}
	l := lens.New(p.Bytes())
	for i := range 3 {
		if a, b, c := l.U8(), l.U16(), l.U32(); a != uint8(200+i) || b != uint16(60000+i) || c != uint32(4000000000+i) {
			t.Error(i, a, b, c)
		}
		for _, n := range nums {
			if got := l.Number(n); got != n {
				t.Errorf("%d: %d", n, got)
			}
		}
		for _, n := range signs {
			if got := l.Signed(n, n); got != n {
				t.Errorf("%d: %d", n, got)
			}
		}
		if b := l.Raw(i); !bytes.Equal(b, long[:i]) {
			t.Error(b)
		}
		if b := l.Field(len(long)); !bytes.Equal(b, long[i:]) {
			t.Error(b)
		}
		if b := l.Field(0); len(b) > 0 {
			t.Error(b)
		}
	}
	has(t, "all", l, p.Len(), p.Len(), api.OK)
}

// P3.3: a nil lens; and a lens of no bytes, which isn't one.
func TestNilAndNoBytes(t *testing.T) {
	var none *lens.Lens
	for _, r := range reads() {
		zero, _, _ := r.want(nil)
		if got := r.do(none); got != zero {
			t.Errorf("nil, %s: %s", r.name, got)
		}
		has(t, "nil", none, 0, 0, api.ErrArg)
	}
	for _, size := range []int{-1, 0, 1, 2, 3, 4} {
		if none.Words(size) == nil {
			t.Errorf("nil: Words(%d) is nil", size)
		}
		for n := range none.Words(size) {
			t.Errorf("nil: Words(%d): %d", size, n)
		}
	}
	for _, b := range [][]byte{nil, {}} {
		l := lens.New(b)
		if l == nil {
			t.Fatal("New: nil")
		}
		has(t, "no bytes", l, 0, 0, api.OK)
		if len(given(l, 1)) > 0 || len(l.Raw(0)) > 0 || len(l.Rest()) > 0 {
			t.Error("no bytes: some")
		}
		has(t, "no bytes, and nothing read", l, 0, 0, api.OK)
	}
}

// The rules on memory: what is handed in is neither kept nor changed, nor its spare room.
func TestHandedInIsLeft(t *testing.T) {
	room := []byte{1, 2, 3, 4, 5, 6, 7, 8}
	l, m, w := lens.New(room[:6]), lens.New(room[:6]), lens.New(room[:6])
	seq := w.Words(2)
	a := l.Raw(2)
	clear(a)
	_ = append(a, 99)
	_ = append(l.Field(3)[:0], 99, 99, 99, 99)
	if !bytes.Equal(room, []byte{1, 2, 3, 4, 5, 6, 7, 8}) {
		t.Errorf("changed to %v", room)
	}
	clear(room)
	if b := m.Rest(); !bytes.Equal(b, []byte{1, 2, 3, 4, 5, 6}) {
		t.Errorf("bytes that were changed behind the call: %v", b)
	}
	if got := slices.Collect(seq); !slices.Equal(got, []uint32{513, 1027, 1541}) {
		t.Errorf("words of bytes that were changed behind the call: %v", got)
	}
}

// The rules on memory: answers are new; what is put to one is seen neither in another nor by the lens.
func TestAnswersAreNew(t *testing.T) {
	l := lens.New([]byte{1, 2, 2, 3, 4, 5, 6, 7, 8})
	a, b := l.Raw(2), l.Field(2)
	_ = append(a, 99, 99, 99, 99, 99, 99, 99)
	_ = append(b, 98, 98, 98, 98, 98)
	clear(a[:cap(a)])
	if !bytes.Equal(b, []byte{3, 4}) {
		t.Errorf("answers share memory: %v", b)
	}
	clear(b[:cap(b)])
	c := l.Rest()
	if !bytes.Equal(c, []byte{5, 6, 7, 8}) {
		t.Errorf("an answer is the lens's own memory: %v", c)
	}
	if l.Raw(0); l.Err() != api.OK || l.Left() != 0 {
		t.Error(l.Err(), l.Left())
	}
}
