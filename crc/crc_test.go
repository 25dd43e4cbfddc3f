package crc_test

import (
	"bytes"
	"hash/crc32"
	"math"
	"math/bits"
	"slices"
	"testing"

	"cuneiform/api"
	"cuneiform/crc"
)

// turnedIn: a byte turned into a word, as the chapter's words say it.
func turnedIn(word uint32, c byte) uint32 {
	word ^= uint32(c)
	for range 8 {
		if word&1 == 1 {
			word = word>>1 ^ 0xedb88320
		} else {
			word >>= 1
		}
	}
	return word
}

// sumOf: the sum as the chapter's words say it.
func sumOf(b []byte) uint32 {
	word := uint32(math.MaxUint32)
	for _, c := range b {
		word = turnedIn(word, c)
	}
	return word ^ math.MaxUint32
}

// lastOf: a sum's four bytes, by division.
func lastOf(n uint32) []byte {
	var out []byte
	for range 4 {
		out = append(out, byte(n%256))
		n /= 256
	}
	return out
}

// some: n bytes that look like nothing, another row for each seed.
func some(n, seed int) []byte {
	out := make([]byte, n)
	word := uint32(seed)*2654435761 + 1
	for i := range out {
		word = word*1664525 + 1013904223
		out[i] = byte(word >> 24)
	}
	return out
}

// rows: rows of bytes of each length up to 70, and some longer ones.
func rows() [][]byte {
	out := [][]byte{nil, {}}
	for n := range 71 {
		out = append(out, some(n, n), make([]byte, n), bytes.Repeat([]byte{255}, n))
	}
	for _, n := range []int{127, 128, 253, 254, 255, 256, 257, 1000, 4095, 4096, 70001} {
		out = append(out, some(n, n))
	}
	for c := range 256 {
		out = append(out, []byte{byte(c)})
	}
	return out
}

// P4.1: sums that are known.
func TestKnownSums(t *testing.T) {
	x := crc.New()
	for _, y := range []struct {
		text string
		want uint32
	}{
		{"", 0},
		{"a", 0xe8b7be43},
		{"abc", 0x352441c2},
		{"1234", 0x9be3e0a3},
		{"12345", 0xcbf53a1c},
		{"123456789", 0xcbf43926},
		{"\x00", 0xd202ef8d},
		{"\xff", 0xff000000},
		{"\x00\x00\x00\x00", 0x2144df1c},
		{"\xff\xff\xff\xff", 0xffffffff},
		{"The quick brown fox jumps over the lazy dog", 0x414fa339},
	} {
		if n := x.Sum([]byte(y.text)); n != y.want {
			t.Errorf("Sum of %q: %08x, not %08x", y.text, n, y.want)
		}
		if n := crc.Slow([]byte(y.text)); n != y.want {
			t.Errorf("Slow of %q: %08x, not %08x", y.text, n, y.want)
		}
	}
}

// P4.1: sums of each length, against the words and against a sum of another make.
func TestSumAndSlow(t *testing.T) {
	x := crc.New()
	for _, b := range rows() {
		want := sumOf(b)
		if want != crc32.ChecksumIEEE(b) {
			t.Fatalf("%d bytes: the test's own sum is wrong", len(b))
		}
		if n := x.Sum(b); n != want {
			t.Errorf("Sum of %d bytes: %08x, not %08x", len(b), n, want)
		}
		if n := crc.Slow(b); n != want {
			t.Errorf("Slow of %d bytes: %08x, not %08x", len(b), n, want)
		}
		if n := x.End(x.Add(x.Begin(), b)); n != want {
			t.Errorf("End of %d bytes: %08x, not %08x", len(b), n, want)
		}
	}
}

// P4.1: no lists, and lists of no bytes.
func TestNoLists(t *testing.T) {
	x := crc.New()
	for i, n := range []uint32{
		x.Sum(), x.Sum(nil), x.Sum(nil, nil, nil), x.Sum([]byte{}), x.Sum([]byte{}, nil),
		x.End(x.Begin()), x.End(x.Add(x.Begin(), nil)), x.End(x.Add(x.Add(x.Begin(), []byte{}), nil)),
		crc.Slow(nil), crc.Slow([]byte{}),
	} {
		if n != 0 {
			t.Errorf("%d: no bytes: %08x", i, n)
		}
	}
}

// P4.1, P4.3: bytes in parts, some of them empty, have the sum of the whole.
func TestParts(t *testing.T) {
	x := crc.New()
	for size := range 20 {
		b := some(size, size)
		want := sumOf(b)
		for i := range size + 1 {
			for j := i; j <= size; j++ {
				if n := x.Sum(b[:i], b[i:j], b[j:]); n != want {
					t.Errorf("Sum of %d bytes, cut at %d and %d: %08x, not %08x", size, i, j, n, want)
				}
				if n := x.Sum(nil, b[:i], []byte{}, nil, b[i:j], b[j:], nil); n != want {
					t.Errorf("Sum of %d bytes, cut at %d and %d, with empty parts: %08x, not %08x", size, i, j, n, want)
				}
				if n := x.End(x.Add(x.Add(x.Add(x.Add(x.Begin(), b[:i]), nil), b[i:j]), b[j:])); n != want {
					t.Errorf("Add of %d bytes, cut at %d and %d: %08x, not %08x", size, i, j, n, want)
				}
			}
		}
	}
	b := some(1000, 3)
	var l [][]byte
	state := x.Begin()
	for i := range b {
		l = append(l, b[i:i+1])
		state = x.Add(state, b[i:i+1])
	}
	if x.Sum(l...) != sumOf(b) || x.End(state) != sumOf(b) {
		t.Error("one byte at a time")
	}
	if x.Sum(b[:500], b[500:]) == x.Sum(b[500:], b[:500]) {
		t.Error("parts in another order have the same sum")
	}
}

// P4.1: a state is a value: what is added to it leaves it, and two of one table are nothing to each other.
func TestStates(t *testing.T) {
	x := crc.New()
	a, b, c := some(7, 1), some(13, 2), some(4, 3)
	ahead := x.Add(x.Begin(), a)
	one := x.Add(ahead, b)
	other := x.Add(ahead, c)
	if x.End(ahead) != sumOf(a) || x.End(one) != sumOf(slices.Concat(a, b)) || x.End(other) != sumOf(slices.Concat(a, c)) {
		t.Error("states that go on from one")
	}
	if x.End(x.Add(ahead, nil)) != sumOf(a) || x.Add(ahead, []byte{}) != ahead {
		t.Error("a state behind no more bytes")
	}
	y := crc.New()
	if y.End(y.Add(ahead, b)) != x.End(one) {
		t.Error("a state of another table")
	}
}

// P4.1: Entry, and what has none.
func TestEntry(t *testing.T) {
	x := crc.New()
	for _, y := range []struct {
		i    int
		want uint32
	}{{0, 0}, {1, 0x77073096}, {2, 0xee0e612c}, {128, 0xedb88320}, {254, 0x5a05df1b}, {255, 0x2d02ef8d}} {
		if n := x.Entry(y.i); n != y.want {
			t.Errorf("Entry(%d): %08x, not %08x", y.i, n, y.want)
		}
	}
	for i := range 256 {
		if n := x.Entry(i); n != turnedIn(0, byte(i)) || n != crc32.IEEETable[i] {
			t.Errorf("Entry(%d): %08x", i, n)
		}
	}
	for _, i := range []int{-1, -2, -256, 256, 257, 511, 512, 1023, 1024, 1 << 16, 1<<32 + 1, math.MinInt, math.MaxInt} {
		if n := x.Entry(i); n != 0 {
			t.Errorf("Entry(%d): %08x", i, n)
		}
	}
}

// P4.2: Seal, and Open of what was sealed.
func TestSealAndOpen(t *testing.T) {
	x := crc.New()
	if b := crc.Seal(x, []byte("abc")); string(b) != "abc\xc2\x41\x24\x35" {
		t.Errorf("abc, sealed: %q", b)
	}
	if b := crc.Seal(x, nil); !bytes.Equal(b, []byte{0, 0, 0, 0}) {
		t.Errorf("no bytes, sealed: %v", b)
	}
	for _, b := range rows() {
		want := slices.Concat(b, lastOf(sumOf(b)))
		s := crc.Seal(x, b)
		if !bytes.Equal(s, want) {
			t.Errorf("%d bytes, sealed: not they and their sum", len(b))
		}
		if got, e := crc.Open(x, want); e != api.OK || !bytes.Equal(got, b) {
			t.Errorf("%d bytes, opened: %d bytes, %d", len(b), len(got), e)
		}
		if got, e := crc.Open(crc.New(), s); e != api.OK || !bytes.Equal(got, b) {
			t.Errorf("%d bytes, opened by another table: %d bytes, %d", len(b), len(got), e)
		}
	}
}

// P4.2: what is too short, just long enough, and one byte longer.
func TestOpenShort(t *testing.T) {
	x := crc.New()
	for _, y := range []struct {
		b    []byte
		want []byte
		e    api.Errno
	}{
		{nil, nil, api.ErrShort},
		{[]byte{}, nil, api.ErrShort},
		{[]byte{0}, nil, api.ErrShort},
		{[]byte{0, 0}, nil, api.ErrShort},
		{[]byte{0, 0, 0}, nil, api.ErrShort},
		{[]byte{1, 2, 3}, nil, api.ErrShort},
		{[]byte{0, 0, 0, 0}, nil, api.OK},
		{[]byte{1, 0, 0, 0}, nil, api.ErrSum},
		{[]byte{0, 0, 0, 1}, nil, api.ErrSum},
		{[]byte{0, 0, 0, 0, 0}, nil, api.ErrSum},
		{[]byte{0, 0x8d, 0xef, 0x02, 0xd2}, []byte{0}, api.OK},
		{[]byte{0, 0xd2, 0x02, 0xef, 0x8d}, nil, api.ErrSum}, // the highest byte first
		{[]byte{1, 0x8d, 0xef, 0x02, 0xd2}, nil, api.ErrSum},
		{[]byte{0x8d, 0xef, 0x02, 0xd2, 0}, nil, api.ErrSum}, // the sum ahead
		{[]byte{255, 0, 0, 0, 255}, []byte{255}, api.OK},
		{[]byte{255, 255, 255, 255, 255, 255, 255, 255}, []byte{255, 255, 255, 255}, api.OK},
	} {
		if b, e := crc.Open(x, y.b); e != y.e || !bytes.Equal(b, y.want) {
			t.Errorf("Open(%v): %v, %d, not %v, %d", y.b, b, e, y.want, y.e)
		}
	}
}

// P4.2: a turned bit, in the bytes or in the sum, and bytes that are put behind or taken from the end.
func TestOpenSpoiled(t *testing.T) {
	x := crc.New()
	for _, size := range []int{0, 1, 3, 4, 5, 60, 242} {
		s := crc.Seal(x, some(size, size))
		for at := range 8 * len(s) {
			bad := slices.Clone(s)
			bad[at/8] ^= 1 << (at % 8)
			if b, e := crc.Open(x, bad); e != api.ErrSum || len(b) > 0 {
				t.Errorf("%d bytes, bit %d turned: %v, %d", size, at, b, e)
			}
		}
		if b, e := crc.Open(x, append(slices.Clone(s), 7)); e != api.ErrSum || len(b) > 0 {
			t.Errorf("%d bytes, sealed, and one behind: %v, %d", size, b, e)
		}
		want := api.ErrSum
		if size == 0 {
			want = api.ErrShort
		}
		if b, e := crc.Open(x, s[:len(s)-1]); e != want || len(b) > 0 {
			t.Errorf("%d bytes, sealed, without the last: %v, %d", size, b, e)
		}
	}
}

// turned: bytes, the bits of a word turned in them from a bit's place on; and whether all have a place there.
func turned(b []byte, word uint32, at int) ([]byte, bool) {
	out := slices.Clone(b)
	for i := range 32 {
		if word>>i&1 == 0 {
			continue
		}
		if at+i >= 8*len(b) {
			return nil, false
		}
		out[(at+i)/8] ^= 1 << ((at + i) % 8)
	}
	return out, true
}

// P4.3: bytes of which some bits are turned, none 32 or more apart, have another sum.
func TestTurnedBits(t *testing.T) {
	x := crc.New()
	words := []uint32{1, 3, 5, 1 << 31, 1<<31 | 1, math.MaxUint32, 0xedb88320, 0xdb710641, bits.Reverse32(0xedb88320), 0x80000001 | 1<<16}
	for i := range 40 {
		b := some(4, i+100)
		words = append(words, uint32(b[0])|uint32(b[1])<<8|uint32(b[2])<<16|uint32(b[3])<<24|1)
	}
	for _, size := range []int{1, 2, 4, 5, 9, 33} {
		b := some(size, size)
		was := x.Sum(b)
		for _, word := range words {
			for at := range 8 * size {
				bad, ok := turned(b, word, at)
				if ok && (x.Sum(bad) == was || crc.Slow(bad) == was) {
					t.Errorf("%d bytes, %08x turned at %d: the same sum", size, word, at)
				}
			}
		}
	}
}

// P4.3: the sum of three lists of one length, xored, is their sums, xored.
func TestThreeXored(t *testing.T) {
	x := crc.New()
	for size := range 80 {
		a, b, c := some(size, 1), some(size, 2), some(size, 3)
		all := make([]byte, size)
		for i := range all {
			all[i] = a[i] ^ b[i] ^ c[i]
		}
		if x.Sum(all) != x.Sum(a)^x.Sum(b)^x.Sum(c) {
			t.Errorf("Sum of three of %d bytes", size)
		}
		if crc.Slow(all) != crc.Slow(a)^crc.Slow(b)^crc.Slow(c) {
			t.Errorf("Slow of three of %d bytes", size)
		}
	}
}

// P4.3: a nil table, in each call.
func TestNil(t *testing.T) {
	var none *crc.Table
	x := crc.New()
	if x == nil {
		t.Fatal("New: nil")
	}
	sealed := crc.Seal(x, []byte("abc"))
	for i, n := range []uint32{
		none.Sum(), none.Sum(nil), none.Sum([]byte("abc")), none.Sum([]byte("123456789"), nil, []byte{1}),
		none.Begin(), none.Add(0, nil), none.Add(5, nil), none.Add(x.Begin(), []byte{1, 2, 3, 4, 5}), none.Add(none.Begin(), []byte{1}),
		none.End(0), none.End(7), none.End(none.Begin()), none.End(x.Begin()),
		none.Entry(-1), none.Entry(0), none.Entry(1), none.Entry(255), none.Entry(256),
	} {
		if n != 0 {
			t.Errorf("%d: nil: %08x", i, n)
		}
	}
	for _, b := range [][]byte{nil, {}, {1}, {0, 0, 0, 0}, []byte("abc"), sealed} {
		if s := crc.Seal(nil, b); len(s) > 0 {
			t.Errorf("nil: Seal(%v): %v", b, s)
		}
		if got, e := crc.Open(nil, b); len(got) > 0 || e != api.ErrArg { // ahead of ErrShort and of ErrSum
			t.Errorf("nil: Open(%v): %v, %d", b, got, e)
		}
	}
}

// The rules on memory: what is handed in is neither kept nor changed, nor its spare room.
func TestHandedInIsLeft(t *testing.T) {
	x := crc.New()
	row := []byte("abc\xc2\x41\x24\x35 and more")
	was := slices.Clone(row)
	for size := range len(row) + 1 {
		crc.Seal(x, row[:size])
		crc.Open(x, row[:size])
		x.Sum(row[:size], row[size:])
		x.Add(x.Begin(), row[:size])
		crc.Slow(row[:size])
		if !bytes.Equal(row, was) {
			t.Fatalf("%d bytes: changed to %q", size, row)
		}
	}
	s := crc.Seal(x, row[:3])
	b, e := crc.Open(x, row[:7])
	n := x.Sum(row)
	clear(row)
	if string(s) != "abc\xc2\x41\x24\x35" || string(b) != "abc" || e != api.OK {
		t.Errorf("answers that hang on what was handed in: %q, %q", s, b)
	}
	if x.Sum(was) != n {
		t.Error("another sum of the same bytes")
	}
	l := [][]byte{{1}, {2}, {3}}
	x.Sum(l[:2]...)
	if !bytes.Equal(slices.Concat(l...), []byte{1, 2, 3}) {
		t.Error("lists that were handed in are changed")
	}
}

// The rules on memory: answers are new, and share none with one another.
func TestAnswersAreNew(t *testing.T) {
	x := crc.New()
	in := []byte("abc")
	s, again := crc.Seal(x, in), crc.Seal(x, in)
	b, _ := crc.Open(x, s)
	c, _ := crc.Open(x, s)
	clear(b[:cap(b)])
	_ = append(c, 99, 99, 99, 99)
	if string(c) != "abc" || string(s) != "abc\xc2\x41\x24\x35" {
		t.Errorf("answers of Open share memory: %q, %q", c, s)
	}
	clear(s[:cap(s)])
	if string(again) != "abc\xc2\x41\x24\x35" || string(in) != "abc" || string(c) != "abc" {
		t.Errorf("answers of Seal share memory: %q, %q, %q", again, in, c)
	}
}
