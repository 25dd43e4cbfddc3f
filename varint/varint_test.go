package varint_test

import (
	"bytes"
	"math"
	"math/big"
	"slices"
	"testing"

	"cuneiform/api"
	"cuneiform/varint"
)

type found struct {
	at int
	n  uint64
}

// numbers: those at which something may turn, and some between, rising.
func numbers() []uint64 {
	var out []uint64
	for i := range 64 {
		one := uint64(1) << i
		out = append(out, one-1, one, one+1, one|one>>3|one>>5)
	}
	for n := uint64(3); n < 1<<62; n = n*5 + 1 {
		out = append(out, n, math.MaxUint64-n)
	}
	out = append(out, math.MaxUint64-1, math.MaxUint64)
	slices.Sort(out)
	return slices.Compact(out)
}

// bytesOf: a number's bytes, by division.
func bytesOf(n uint64) []byte {
	if n < 128 {
		return []byte{byte(n)}
	}
	return append([]byte{byte(n%128) + 128}, bytesOf(n/128)...)
}

// told: what Get has to answer, question by question as P1.2 asks them.
func told(b []byte) (uint64, int, api.Errno) {
	high := 0
	for high < len(b) && b[high] >= 128 {
		high++
	}
	if high >= 10 {
		return 0, 0, api.ErrForm
	}
	if high == len(b) {
		return 0, 0, api.ErrEnd
	}
	sum := new(big.Int)
	for i := high; i >= 0; i-- {
		sum.Mul(sum, big.NewInt(128))
		sum.Add(sum, big.NewInt(int64(b[i]%128)))
	}
	if !sum.IsUint64() || len(bytesOf(sum.Uint64())) < high+1 {
		return 0, 0, api.ErrForm
	}
	return sum.Uint64(), high + 1, api.OK
}

// toldAll: what All has to give, and Count to answer.
func toldAll(b []byte) ([]found, api.Errno) {
	var out []found
	for at := 0; at < len(b); {
		n, size, e := told(b[at:])
		if e != api.OK {
			return out, e
		}
		out = append(out, found{at, n})
		at += size
	}
	return out, api.OK
}

func given(b []byte) []found {
	var out []found
	for at, n := range varint.All(b) {
		out = append(out, found{at, n})
	}
	return out
}

// rows: calls f with all rows of up to most bytes of an alphabet, behind a beginning.
func rows(begin, alphabet []byte, most int, f func(b []byte)) {
	f(slices.Clone(begin))
	if most == 0 {
		return
	}
	for _, c := range alphabet {
		rows(append(slices.Clone(begin), c), alphabet, most-1, f)
	}
}

// wrong: rows of bytes, most of which are no numbers' bytes.
func wrong(f func(b []byte)) {
	alphabet := []byte{0, 1, 2, 127, 128, 129, 130, 255}
	rows(nil, alphabet, 4, f)
	for n := 5; n <= 10; n++ {
		for _, c := range []byte{128, 129, 255} {
			rows(bytes.Repeat([]byte{c}, n), alphabet, 3, f)
		}
	}
}

// P1.1: Put.
func TestPut(t *testing.T) {
	for _, x := range []struct {
		l    []uint64
		want []byte
	}{
		{nil, nil},
		{[]uint64{}, nil},
		{[]uint64{0}, []byte{0}},
		{[]uint64{0, 0, 0}, []byte{0, 0, 0}},
		{[]uint64{127}, []byte{127}},
		{[]uint64{128}, []byte{128, 1}},
		{[]uint64{5, 300}, []byte{5, 172, 2}},
		{[]uint64{300, 5}, []byte{172, 2, 5}},
		{[]uint64{16383, 16384}, []byte{255, 127, 128, 128, 1}},
		{[]uint64{1 << 63}, []byte{128, 128, 128, 128, 128, 128, 128, 128, 128, 1}},
		{[]uint64{1<<63 - 1}, []byte{255, 255, 255, 255, 255, 255, 255, 255, 127}},
		{[]uint64{math.MaxUint64}, []byte{255, 255, 255, 255, 255, 255, 255, 255, 255, 1}},
	} {
		if b := varint.Put(x.l...); !bytes.Equal(b, x.want) {
			t.Errorf("Put(%v): %v, not %v", x.l, b, x.want)
		}
	}
	var all []byte
	for _, n := range numbers() {
		want := bytesOf(n)
		all = append(all, want...)
		if b := varint.Put(n); !bytes.Equal(b, want) {
			t.Errorf("Put(%d): %v, not %v", n, b, want)
		}
	}
	if !bytes.Equal(varint.Put(numbers()...), all) {
		t.Error("Put of many isn't theirs, one behind the other")
	}
}

// P1.1: Size.
func TestSize(t *testing.T) {
	if k := varint.Size(0); k != 1 {
		t.Errorf("Size(0): %d", k)
	}
	for k := 1; k <= 9; k++ {
		edge := uint64(1) << (7 * k)
		if a, b := varint.Size(edge-1), varint.Size(edge); a != k || b != k+1 {
			t.Errorf("Size(%d): %d, of one more: %d", edge-1, a, b)
		}
	}
	if k := varint.Size(math.MaxUint64); k != 10 {
		t.Errorf("Size of the greatest: %d", k)
	}
	for _, n := range numbers() {
		if k := varint.Size(n); k != len(bytesOf(n)) {
			t.Errorf("Size(%d): %d", n, k)
		}
	}
}

// P1.1: Zig and Zag.
func TestZigZag(t *testing.T) {
	for _, x := range []struct {
		n int64
		z uint64
	}{
		{0, 0}, {-1, 1}, {1, 2}, {-2, 3}, {2, 4}, {-3, 5}, {150, 300},
		{math.MaxInt32, 1<<32 - 2}, {math.MinInt32, 1<<32 - 1},
		{math.MaxInt64, math.MaxUint64 - 1}, {math.MinInt64, math.MaxUint64},
		{math.MinInt64 + 1, math.MaxUint64 - 2},
	} {
		if z := varint.Zig(x.n); z != x.z {
			t.Errorf("Zig(%d): %d, not %d", x.n, z, x.z)
		}
		if n := varint.Zag(x.z); n != x.n {
			t.Errorf("Zag(%d): %d, not %d", x.z, n, x.n)
		}
	}
	for _, w := range numbers() {
		n := int64(w)
		want := new(big.Int).Mul(big.NewInt(n), big.NewInt(2))
		if n < 0 {
			want.Not(want) // -2 n - 1
		}
		if z := varint.Zig(n); z != want.Uint64() || varint.Zag(z) != n {
			t.Errorf("Zig(%d): %d, and back %d", n, z, varint.Zag(z))
		}
		if z := varint.Zig(varint.Zag(w)); z != w {
			t.Errorf("Zag(%d), and back: %d", w, z)
		}
	}
}

// P1.2: what is ordinary, and the edges.
func TestGet(t *testing.T) {
	full := bytes.Repeat([]byte{255}, 9)
	low := bytes.Repeat([]byte{128}, 9)
	with := func(b []byte, l ...byte) []byte { return append(slices.Clone(b), l...) }
	for _, x := range []struct {
		b    []byte
		n    uint64
		size int
		e    api.Errno
	}{
		{nil, 0, 0, api.ErrEnd},
		{[]byte{}, 0, 0, api.ErrEnd},
		{[]byte{0}, 0, 1, api.OK},
		{[]byte{0, 0}, 0, 1, api.OK},
		{[]byte{5, 172, 2}, 5, 1, api.OK},
		{[]byte{127}, 127, 1, api.OK},
		{[]byte{128}, 0, 0, api.ErrEnd},
		{[]byte{172, 2}, 300, 2, api.OK},
		{[]byte{172, 2, 128}, 300, 2, api.OK},
		{[]byte{128, 0}, 0, 0, api.ErrForm},
		{[]byte{128, 0, 1}, 0, 0, api.ErrForm},
		{[]byte{129, 0}, 0, 0, api.ErrForm},
		{[]byte{128, 128, 0}, 0, 0, api.ErrForm},
		{[]byte{128, 128, 1}, 16384, 3, api.OK},
		{full, 0, 0, api.ErrEnd},
		{full[:8], 0, 0, api.ErrEnd},
		{with(full[:8], 127), 1<<63 - 1, 9, api.OK},
		{with(low, 1), 1 << 63, 10, api.OK},
		{with(full, 1), math.MaxUint64, 10, api.OK},
		{with(full, 1, 255), math.MaxUint64, 10, api.OK},
		{with(low, 0), 0, 0, api.ErrForm},
		{with(full, 0), 0, 0, api.ErrForm},
		{with(low, 2), 0, 0, api.ErrForm},
		{with(low, 127), 0, 0, api.ErrForm},
		{with(full, 128), 0, 0, api.ErrForm},
		{with(full, 255, 1), 0, 0, api.ErrForm},
		{with(low, 128, 128), 0, 0, api.ErrForm},
	} {
		if n, size, e := varint.Get(x.b); n != x.n || size != x.size || e != x.e {
			t.Errorf("Get(%v): %d, %d, %d", x.b, n, size, e)
		}
	}
}

// P1.2: each row of bytes, also the wrong ones, against the promise's own questions.
func TestGetEach(t *testing.T) {
	wrong(func(b []byte) {
		n, size, e := varint.Get(b)
		if wn, ws, we := told(b); n != wn || size != ws || e != we {
			t.Errorf("Get(%v): %d, %d, %d, not %d, %d, %d", b, n, size, e, wn, ws, we)
		}
	})
}

// P1.3: All and Count.
func TestAllAndCount(t *testing.T) {
	for _, x := range []struct {
		b    []byte
		want []found
		e    api.Errno
	}{
		{nil, nil, api.OK},
		{[]byte{}, nil, api.OK},
		{[]byte{0}, []found{{0, 0}}, api.OK},
		{[]byte{5, 172, 2}, []found{{0, 5}, {1, 300}}, api.OK},
		{[]byte{5, 172, 2, 7, 128}, []found{{0, 5}, {1, 300}, {3, 7}}, api.ErrEnd},
		{[]byte{5, 128, 0, 7}, []found{{0, 5}}, api.ErrForm},
		{[]byte{128}, nil, api.ErrEnd},
		{[]byte{128, 0}, nil, api.ErrForm},
		{append([]byte{172, 2}, bytes.Repeat([]byte{255}, 10)...), []found{{0, 300}}, api.ErrForm},
		{append([]byte{172, 2}, bytes.Repeat([]byte{255}, 9)...), []found{{0, 300}}, api.ErrEnd},
	} {
		if l := given(x.b); !slices.Equal(l, x.want) {
			t.Errorf("All(%v): %v, not %v", x.b, l, x.want)
		}
		if n, e := varint.Count(x.b); n != len(x.want) || e != x.e {
			t.Errorf("Count(%v): %d, %d", x.b, n, e)
		}
	}
	wrong(func(b []byte) {
		want, we := toldAll(b)
		if l := given(b); !slices.Equal(l, want) {
			t.Errorf("All(%v): %v, not %v", b, l, want)
		}
		if n, e := varint.Count(b); n != len(want) || e != we {
			t.Errorf("Count(%v): %d, %d, not %d, %d", b, n, e, len(want), we)
		}
	})
}

// P1.3: what All gives is never nil, is given anew each time, and may end at any.
func TestAllIsRangedOver(t *testing.T) {
	if varint.All(nil) == nil || varint.All([]byte{128}) == nil {
		t.Error("All is nil")
	}
	b := varint.Put(numbers()...)
	want, _ := toldAll(b)
	seq := varint.All(b)
	for _, most := range []int{1, 3, len(want), 2} {
		var got []found
		for at, n := range seq {
			got = append(got, found{at, n})
			if len(got) == most {
				break
			}
		}
		if !slices.Equal(got, want[:most]) {
			t.Errorf("the first %d: %v", most, got)
		}
	}
}

// P1.4: what was put is told as it was; what is told is put as it was.
func TestThereAndBack(t *testing.T) {
	l := numbers()
	var back []uint64
	for _, n := range varint.All(varint.Put(l...)) {
		back = append(back, n)
	}
	if !slices.Equal(back, l) {
		t.Error("numbers that were put aren't told as they were")
	}
	for _, n := range l {
		if m, size, e := varint.Get(varint.Put(n)); m != n || size != varint.Size(n) || e != api.OK {
			t.Errorf("Get(Put(%d)): %d, %d, %d", n, m, size, e)
		}
	}
	wrong(func(b []byte) {
		if n, size, e := varint.Get(b); e == api.OK && !bytes.Equal(varint.Put(n), b[:size]) {
			t.Errorf("Get(%v): %d, which is put as %v", b, n, varint.Put(n))
		}
	})
}

// P1.4: a greater number has no fewer bytes.
func TestGreaterHasNoFewer(t *testing.T) {
	size := 0
	for _, n := range numbers() {
		k := varint.Size(n)
		if k < size || k != len(varint.Put(n)) {
			t.Errorf("%d has %d bytes, a smaller one %d", n, k, size)
		}
		size = k
	}
}

// The rules on memory: what is handed in is neither kept nor changed, nor its spare room.
func TestHandedInIsLeft(t *testing.T) {
	room := []byte{5, 172, 2, 7, 128, 9, 9}
	b := room[:5]
	seq := varint.All(b)
	varint.Get(b)
	varint.Count(b)
	for range seq {
	}
	if !bytes.Equal(room, []byte{5, 172, 2, 7, 128, 9, 9}) {
		t.Errorf("changed to %v", room)
	}
	clear(room)
	var got []found
	for at, n := range seq {
		got = append(got, found{at, n})
	}
	if !slices.Equal(got, []found{{0, 5}, {1, 300}, {3, 7}}) {
		t.Errorf("All of bytes that were changed behind the call: %v", got)
	}
	l := []uint64{1, 300, 2}
	varint.Put(l[:2]...)
	if !slices.Equal(l, []uint64{1, 300, 2}) {
		t.Errorf("changed to %v", l)
	}
}

// The rules on memory: answers share none with one another.
func TestAnswersAreNew(t *testing.T) {
	a, b := varint.Put(5, 300), varint.Put(5, 300)
	clear(a[:cap(a)])
	if !bytes.Equal(b, []byte{5, 172, 2}) || !bytes.Equal(varint.Put(5, 300), b) {
		t.Error("answers of Put share memory")
	}
}
