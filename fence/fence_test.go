package fence_test

import (
	"bytes"
	"math"
	"slices"
	"testing"

	"cuneiform/fence"
)

// segment: a segment, and where it is.
type segment struct {
	at    int
	bytes []byte
}

// segmentsOf: the segments and what is open as the chapter's words say it, from what stands between the noughts.
func segmentsOf(b []byte) ([]segment, []byte) {
	var out []segment
	rows := bytes.Split(b, []byte{0})
	at := 0
	for _, row := range rows[:len(rows)-1] {
		if len(row) > 0 {
			out = append(out, segment{at, row})
		}
		at += len(row) + 1
	}
	return out, rows[len(rows)-1]
}

// row: n bytes other than 0.
func row(n int) []byte {
	out := make([]byte, n)
	for i := range out {
		out[i] = byte(1 + (i*7+n)%255)
	}
	return out
}

// rows: calls f with all rows of up to most bytes of an alphabet, behind a beginning.
func rows(begin, alphabet []byte, most int, f func(b []byte)) {
	f(slices.Clone(begin))
	if most == 0 {
		return
	}
	for _, c := range alphabet {
		rows(append(slices.Clone(begin), c), alphabet, most-1, f)
	}
}

// sizeRows: calls f with all rows of up to most sizes of some, behind a beginning.
func sizeRows(begin, of []int, most int, f func(sizes []int)) {
	f(slices.Clone(begin))
	if most == 0 {
		return
	}
	for _, n := range of {
		sizeRows(append(slices.Clone(begin), n), of, most-1, f)
	}
}

// given: what Segments gives, each one copied at once.
func given(b []byte) []segment {
	var out []segment
	for at, s := range fence.Segments(b) {
		out = append(out, segment{at, slices.Clone(s)})
	}
	return out
}

// chunks: what Chunks gives, each part copied at once.
func chunks(b []byte, sizes ...int) [][]byte {
	var out [][]byte
	for part := range fence.Chunks(b, sizes...) {
		out = append(out, slices.Clone(part))
	}
	return out
}

func sameSegments(a, b []segment) bool {
	return slices.EqualFunc(a, b, func(x, y segment) bool { return x.at == y.at && bytes.Equal(x.bytes, y.bytes) })
}

func same(a, b [][]byte) bool { return slices.EqualFunc(a, b, bytes.Equal) }

// bytesOf: segments without their places.
func bytesOf(l []segment) [][]byte {
	var out [][]byte
	for _, s := range l {
		out = append(out, s.bytes)
	}
	return out
}

// behind: segments so many bytes farther on.
func behind(l []segment, n int) []segment {
	var out []segment
	for _, s := range l {
		out = append(out, segment{s.at + n, s.bytes})
	}
	return out
}

// full: lists that aren't empty.
func full(l [][]byte) [][]byte {
	return slices.DeleteFunc(slices.Clone(l), func(b []byte) bool { return len(b) == 0 })
}

// short: bytes as a fault tells them.
func short(b []byte) []byte { return b[:min(len(b), 12)] }

// are: whether Segments, Split and Count tell these segments of bytes, and this open.
func are(t *testing.T, b []byte, want []segment, open []byte) {
	t.Helper()
	if l := given(b); !sameSegments(l, want) {
		t.Errorf("Segments of %d bytes, %v..: %v, not %v", len(b), short(b), l, want)
	}
	l, o := fence.Split(b)
	if !same(l, bytesOf(want)) {
		t.Errorf("Split of %d bytes, %v..: the segments %v, not %v", len(b), short(b), l, bytesOf(want))
	}
	if !bytes.Equal(o, open) {
		t.Errorf("Split of %d bytes, %v..: open %v, not %v", len(b), short(b), o, open)
	}
	if n := fence.Count(b); n != len(want) {
		t.Errorf("Count of %d bytes, %v..: %d, not %d", len(b), short(b), n, len(want))
	}
}

// P6.1: bytes whose segments are known.
func TestKnown(t *testing.T) {
	long := row(1000)
	for _, x := range []struct {
		b    []byte
		l    []segment
		open []byte
	}{
		{nil, nil, nil},
		{[]byte{}, nil, nil},
		{[]byte{0}, nil, nil},
		{[]byte{0, 0}, nil, nil},
		{make([]byte, 1000), nil, nil},
		{[]byte{5}, nil, []byte{5}},
		{[]byte{5, 6, 7}, nil, []byte{5, 6, 7}},
		{long, nil, long},
		{[]byte{5, 0}, []segment{{0, []byte{5}}}, nil},
		{[]byte{0, 5}, nil, []byte{5}},
		{[]byte{0, 5, 0}, []segment{{1, []byte{5}}}, nil},
		{[]byte{0, 0, 5, 6, 0, 0}, []segment{{2, []byte{5, 6}}}, nil},
		{[]byte{5, 0, 0, 6, 7, 0, 8}, []segment{{0, []byte{5}}, {3, []byte{6, 7}}}, []byte{8}},
		{[]byte{0, 5, 0, 0, 6, 7, 0, 8}, []segment{{1, []byte{5}}, {4, []byte{6, 7}}}, []byte{8}},
		{[]byte{5, 0, 6, 0, 7, 8}, []segment{{0, []byte{5}}, {2, []byte{6}}}, []byte{7, 8}},
		{[]byte{5, 0, 5, 0, 5, 0}, []segment{{0, []byte{5}}, {2, []byte{5}}, {4, []byte{5}}}, nil},
		{[]byte{255, 0, 0, 0, 1, 255}, []segment{{0, []byte{255}}}, []byte{1, 255}},
		{slices.Concat(make([]byte, 1000), long, []byte{0}, long), []segment{{1000, long}}, long},
	} {
		are(t, x.b, x.l, x.open)
	}
}

// P6.1: all short rows, and long ones, against the words.
func TestAgainstTheWords(t *testing.T) {
	check := func(b []byte) {
		want, open := segmentsOf(b)
		are(t, b, want, open)
	}
	rows(nil, []byte{0, 1, 255}, 8, check)
	for _, n := range []int{1, 2, 63, 64, 255, 256, 5000} {
		for step := range 12 {
			b := row(n)
			for at := step; at < n; at += step + 1 {
				b[at] = 0
			}
			check(b)
		}
	}
	for c := 1; c < 256; c++ { // each other byte is one of a segment
		are(t, []byte{byte(c), 0, 0, byte(c), byte(c)}, []segment{{0, []byte{byte(c)}}}, []byte{byte(c), byte(c)})
	}
}

// P6.1: lists, each fenced.
func TestWrap(t *testing.T) {
	long := row(1000)
	for i, x := range []struct {
		l    [][]byte
		want []byte
	}{
		{nil, nil},
		{[][]byte{}, nil},
		{[][]byte{nil}, []byte{0, 0}},
		{[][]byte{{}}, []byte{0, 0}},
		{[][]byte{nil, {}, nil}, []byte{0, 0, 0, 0, 0, 0}},
		{[][]byte{{5}}, []byte{0, 5, 0}},
		{[][]byte{{5}, {6, 7}}, []byte{0, 5, 0, 0, 6, 7, 0}},
		{[][]byte{{1, 2}, nil, {3}}, []byte{0, 1, 2, 0, 0, 0, 0, 3, 0}},
		{[][]byte{{0}}, []byte{0, 0, 0}},
		{[][]byte{{5, 0, 6}, {7}}, []byte{0, 5, 0, 6, 0, 0, 7, 0}},
		{[][]byte{{0, 5}, {6, 0}}, []byte{0, 0, 5, 0, 0, 6, 0, 0}},
		{[][]byte{long, {255}}, slices.Concat([]byte{0}, long, []byte{0, 0, 255, 0})},
	} {
		if b := fence.Wrap(x.l...); !bytes.Equal(b, x.want) {
			t.Errorf("%d: Wrap: %d bytes, %v.., not %d, %v..", i, len(b), short(b), len(x.want), short(x.want))
		}
	}
	if b := fence.Wrap(); len(b) > 0 {
		t.Errorf("Wrap of no lists: %v", b)
	}
}

// P6.3: segments of lists that were wrapped, without noughts within, are those lists, but the empty ones.
func TestWrappedLists(t *testing.T) {
	check := func(l [][]byte) {
		b := fence.Wrap(l...)
		want := full(l)
		if got := bytesOf(given(b)); !same(got, want) {
			t.Errorf("%v, wrapped: the segments %v", l, got)
		}
		if got, open := fence.Split(b); !same(got, want) || len(open) > 0 {
			t.Errorf("%v, wrapped: the segments %v, open %v", l, got, open)
		}
		if n := fence.Count(b); n != len(want) {
			t.Errorf("%v, wrapped: %d segments", l, n)
		}
	}
	lists := [][]byte{nil, {1}, {255, 2}, row(300)}
	for _, a := range lists {
		check([][]byte{a})
		for _, b := range lists {
			check([][]byte{a, b})
			for _, c := range lists {
				check([][]byte{a, b, c})
			}
		}
	}
	// what has a 0 within is no longer one
	if got := bytesOf(given(fence.Wrap([]byte{5, 0, 6}, []byte{7}))); !same(got, [][]byte{{5}, {6}, {7}}) {
		t.Errorf("5, 0, 6, wrapped, and 7: %v", got)
	}
}

// P6.3: the segments of bytes behind a 0 are those of what is ahead of it, and those of what is behind it.
func TestSegmentsAtANought(t *testing.T) {
	check := func(b []byte) {
		all := given(b)
		for i, c := range b {
			if c != 0 {
				continue
			}
			got := slices.Concat(given(b[:i+1]), behind(given(b[i+1:]), i+1))
			if !sameSegments(got, all) {
				t.Errorf("%v, parted behind the 0 at %d: %v, not %v", b, i, got, all)
			}
			l, none := fence.Split(b[:i+1])
			more, open := fence.Split(b[i+1:])
			whole, rest := fence.Split(b)
			if !same(slices.Concat(l, more), whole) || len(none) > 0 || !bytes.Equal(open, rest) {
				t.Errorf("%v, parted behind the 0 at %d: %v and %v, open %v and %v", b, i, l, more, none, open)
			}
			if n := fence.Count(b[:i+1]) + fence.Count(b[i+1:]); n != fence.Count(b) {
				t.Errorf("%v, parted behind the 0 at %d: %d segments", b, i, n)
			}
		}
	}
	rows(nil, []byte{0, 1, 255}, 7, check)
	check(slices.Concat(row(300), []byte{0, 0}, row(200), []byte{0}, row(100)))
}

// P6.2: parts that are known, as how many bytes each has.
func TestKnownChunks(t *testing.T) {
	for i, x := range []struct {
		n            int
		sizes, parts []int
	}{
		{8, nil, []int{8}},
		{8, []int{}, []int{8}},
		{8, []int{0}, []int{8}},
		{8, []int{0, 0, 0}, []int{8}},
		{8, []int{-1}, []int{8}},
		{8, []int{0, -1}, []int{8}},
		{8, []int{math.MinInt, math.MinInt}, []int{8}},
		{8, []int{1}, []int{1, 1, 1, 1, 1, 1, 1, 1}},
		{8, []int{3}, []int{3, 3, 2}},
		{8, []int{4}, []int{4, 4}}, // a part that ends just at the end
		{8, []int{7}, []int{7, 1}},
		{8, []int{8}, []int{8}},
		{8, []int{9}, []int{8}},
		{8, []int{math.MaxInt}, []int{8}},
		{8, []int{math.MaxInt, math.MaxInt, 1}, []int{8}},
		{8, []int{1, math.MaxInt}, []int{1, 7}},
		{8, []int{8, 0}, []int{8}}, // nothing behind the part with which all are given
		{8, []int{8, -1, 4}, []int{8}},
		{8, []int{4, 0}, []int{4, 0, 4}},
		{8, []int{0, 8}, []int{0, 8}},
		{8, []int{0, 4}, []int{0, 4, 0, 4}},
		{8, []int{-5, 20}, []int{0, 8}},
		{8, []int{1, 0, 4}, []int{1, 0, 4, 1, 0, 2}},
		{8, []int{1, -3, 4}, []int{1, 0, 4, 1, 0, 2}},
		{8, []int{1, 2, 3}, []int{1, 2, 3, 1, 1}},
		{8, []int{2, 1}, []int{2, 1, 2, 1, 2}},
		{8, []int{0, 0, 3, 0}, []int{0, 0, 3, 0, 0, 0, 3, 0, 0, 0, 2}},
		{8, []int{5, 3, 100}, []int{5, 3}},
		{1, nil, []int{1}},
		{1, []int{1}, []int{1}},
		{1, []int{0, 0, 2}, []int{0, 0, 1}},
		{1, []int{math.MinInt, 1}, []int{0, 1}},
		{0, nil, nil},
		{0, []int{0}, nil},
		{0, []int{1}, nil},
		{0, []int{-1}, nil},
		{0, []int{0, 3}, nil},
	} {
		b := append(row(x.n), 99)[:x.n]
		var got []int
		var all []byte
		for part := range fence.Chunks(b, x.sizes...) {
			got = append(got, len(part))
			all = append(all, part...)
		}
		if !slices.Equal(got, x.parts) || !bytes.Equal(all, b) {
			t.Errorf("%d: Chunks of %d bytes, %v: %v, not %v; all %v", i, x.n, x.sizes, got, x.parts, all)
		}
	}
	for range fence.Chunks(nil, 1) {
		t.Error("Chunks of no bytes gives something")
	}
	for range fence.Chunks([]byte{}) {
		t.Error("Chunks of no bytes, without sizes, gives something")
	}
}

// P6.2, P6.3: of all short rows of sizes: each part as its size tells, the last one what is left, and all of them the bytes.
func TestChunksOfAllSizes(t *testing.T) {
	check := func(b []byte, sizes []int) {
		parts := chunks(b, sizes...)
		if all := slices.Concat(parts...); !bytes.Equal(all, b) {
			t.Errorf("Chunks of %d bytes, %v: %v, in all", len(b), sizes, all)
		}
		if len(b) == 0 || len(sizes) == 0 || slices.Max(sizes) <= 0 {
			if len(parts) != min(len(b), 1) {
				t.Errorf("Chunks of %d bytes, %v: %v", len(b), sizes, parts)
			}
			return
		}
		left := len(b)
		for i, part := range parts {
			size := max(sizes[i%len(sizes)], 0)
			if left == 0 || len(part) != min(size, left) {
				t.Errorf("Chunks of %d bytes, %v: part %d is %v, with %d left ahead of it", len(b), sizes, i, part, left)
			}
			left -= len(part)
		}
	}
	for _, n := range []int{0, 1, 2, 3, 5, 8, 12} {
		sizeRows(nil, []int{-2, 0, 1, 2, 5, 12}, 4, func(sizes []int) { check(row(n), sizes) })
	}
	for size := range 70 {
		check(row(1000), []int{size})
		check(make([]byte, 64), []int{size, 0, 3})
	}
}

// P6.1: what Segments gives is never nil, is given anew each time, and a loop may end at any.
func TestSegmentsIsRangedOver(t *testing.T) {
	for _, b := range [][]byte{nil, {}, {0}, {5}} {
		seq := fence.Segments(b)
		if seq == nil {
			t.Fatalf("Segments of %v is nil", b)
		}
		for range seq {
			t.Errorf("Segments of %v gives something", b)
		}
	}
	b := []byte{5, 0, 0, 6, 7, 0, 8, 0, 9, 9, 9, 0, 1, 0, 2}
	want, _ := segmentsOf(b)
	seq := fence.Segments(b)
	for _, most := range []int{1, 3, len(want), 2, 4, 1, len(want)} {
		var got []segment
		for at, s := range seq {
			got = append(got, segment{at, s})
			if len(got) == most {
				break
			}
		}
		if !sameSegments(got, want[:most]) {
			t.Errorf("the first %d: %v", most, got)
		}
	}
	outer := 0
	for at, s := range seq {
		if at != want[outer].at || !bytes.Equal(s, want[outer].bytes) {
			t.Errorf("segment %d, with a loop in the loop: %v at %d", outer, s, at)
		}
		outer++
		var inner []segment
		for at, s := range seq {
			inner = append(inner, segment{at, s})
		}
		if !sameSegments(inner, want) {
			t.Errorf("a loop in the loop: %v", inner)
		}
	}
}

// P6.2: what Chunks gives is never nil, is given anew each time, and a loop may end at any.
func TestChunksIsRangedOver(t *testing.T) {
	if fence.Chunks(nil) == nil || fence.Chunks([]byte{}, 1) == nil || fence.Chunks([]byte{5}) == nil {
		t.Fatal("Chunks is nil")
	}
	b := row(20)
	for _, sizes := range [][]int{{3, 0, 4}, {0, 1}, {5}, {7, 7}} {
		want := chunks(b, sizes...)
		seq := fence.Chunks(b, sizes...)
		for most := 1; most <= len(want); most++ {
			var got [][]byte
			for part := range seq {
				got = append(got, part)
				if len(got) == most {
					break
				}
			}
			if !same(got, want[:most]) {
				t.Errorf("%v: the first %d: %v", sizes, most, got)
			}
		}
		outer := 0
		for part := range seq {
			if !bytes.Equal(part, want[outer]) {
				t.Errorf("%v: part %d, with a loop in the loop: %v", sizes, outer, part)
			}
			outer++
			if inner := slices.Collect(seq); !same(inner, want) {
				t.Errorf("%v: a loop in the loop: %v", sizes, inner)
			}
		}
		if outer != len(want) {
			t.Errorf("%v: %d parts, with a loop in the loop", sizes, outer)
		}
	}
	for part := range fence.Chunks(b) { // only the first is asked for, and there is but one
		if !bytes.Equal(part, b) {
			t.Errorf("all at once: %v", part)
		}
		break
	}
}

// spoil: puts other bytes over a list, its spare room and behind it.
func spoil(b []byte) {
	for i := range b[:cap(b)] {
		b[:cap(b)][i] = 99
	}
	_ = append(b, 99, 99, 99)
}

// apart: whether lists share no memory: each is spoiled, and the others must stay as they are.
func apart(t *testing.T, what string, lists [][]byte) {
	t.Helper()
	for i, b := range lists {
		was := make([][]byte, len(lists))
		for k, other := range lists {
			was[k] = slices.Clone(other)
		}
		spoil(b)
		for k, other := range lists {
			if k != i && !bytes.Equal(other, was[k]) {
				t.Errorf("%s: lists %d and %d share memory", what, i, k)
			}
		}
	}
}

// P6.1: segments are new memory, each one.
func TestSegmentsAreNew(t *testing.T) {
	b := []byte{5, 0, 0, 6, 7, 0, 8, 8, 8, 0, 0, 9, 0, 1, 2}
	was := slices.Clone(b)
	want, open := segmentsOf(was)
	seq := fence.Segments(b)
	n := 0
	for at, s := range seq { // what is put to a segment, or over it, comes neither to b nor to those behind it
		if at != want[n].at || !bytes.Equal(s, want[n].bytes) {
			t.Errorf("segment %d: %v at %d", n, s, at)
		}
		n++
		spoil(s)
	}
	if n != len(want) || !bytes.Equal(b, was) {
		t.Errorf("%d segments; the bytes are now %v", n, b)
	}
	var lists [][]byte
	for range 2 {
		for _, s := range seq {
			lists = append(lists, s)
		}
	}
	if !same(lists, append(bytesOf(want), bytesOf(want)...)) {
		t.Errorf("segments that were changed are given as they were changed: %v", lists)
	}
	for range 2 {
		l, o := fence.Split(b)
		if !same(l, bytesOf(want)) || !bytes.Equal(o, open) {
			t.Errorf("Split: %v, open %v", l, o)
		}
		lists = append(append(lists, l...), o)
	}
	apart(t, "Segments and Split", append(lists, b))
	if again := given(was); !sameSegments(again, want) {
		t.Errorf("Segments, at the end: %v", again)
	}
}

// P6.2: parts are new memory, each one.
func TestChunksAreNew(t *testing.T) {
	for _, sizes := range [][]int{nil, {3}, {4, 0, 1}, {12}, {100}} {
		b := row(12)
		was := slices.Clone(b)
		want := chunks(was, sizes...)
		seq := fence.Chunks(b, sizes...)
		n := 0
		for part := range seq {
			if !bytes.Equal(part, want[n]) {
				t.Errorf("%v: part %d: %v, not %v", sizes, n, part, want[n])
			}
			n++
			spoil(part)
		}
		if n != len(want) || !bytes.Equal(b, was) {
			t.Errorf("%v: %d parts; the bytes are now %v", sizes, n, b)
		}
		all := slices.Collect(seq)
		if !same(all, want) {
			t.Errorf("%v: parts that were changed are given as they were changed: %v", sizes, all)
		}
		apart(t, "Chunks", append(append(all, slices.Collect(seq)...), b))
	}
}

// P6.1: what Wrap answers is new memory, also of one list.
func TestWrapIsNew(t *testing.T) {
	one := []byte{5, 6}
	l := [][]byte{one, {7}}
	apart(t, "Wrap", append([][]byte{fence.Wrap(l...), fence.Wrap(l...), fence.Wrap(one), fence.Wrap(nil), fence.Wrap(nil)}, l...))
	same := []byte{5, 6, 7, 8}
	if b := fence.Wrap(same[:2], same[1:], same); !bytes.Equal(b, []byte{0, 5, 6, 0, 0, 6, 7, 8, 0, 0, 5, 6, 7, 8, 0}) {
		t.Errorf("Wrap of lists that share memory: %v", b)
	}
}

// The rules on memory: what is handed in is neither kept nor changed, nor its spare room.
func TestHandedInIsLeft(t *testing.T) {
	b := []byte{0, 5, 0, 0, 6, 7, 0, 8, 0, 9}
	was := slices.Clone(b)
	sizes := []int{1, 0, -2, 4, 3}
	sizesWere := slices.Clone(sizes)
	for n := range len(b) + 1 {
		fence.Wrap(b[:n], b[:n/2])
		fence.Split(b[:n])
		fence.Count(b[:n])
		for range fence.Segments(b[:n]) {
		}
		for k := range len(sizes) + 1 {
			for range fence.Chunks(b[:n], sizes[:k]...) {
			}
		}
		if !bytes.Equal(b, was) || !slices.Equal(sizes, sizesWere) {
			t.Fatalf("%d bytes: changed to %v, and %v", n, b, sizes)
		}
	}
	segments, parts := fence.Segments(b), fence.Chunks(b, sizes...)
	lists, open := fence.Split(b)
	l := [][]byte{b[1:2], b[4:6]}
	wrapped := fence.Wrap(l...)
	wantParts := chunks(was, sizesWere...)
	for i := range b {
		b[i] = 3
	}
	for i := range sizes {
		sizes[i] = 2
	}
	want, rest := segmentsOf(was)
	var got []segment
	for at, s := range segments {
		got = append(got, segment{at, s})
	}
	if !sameSegments(got, want) {
		t.Errorf("Segments of bytes that were changed behind the call: %v", got)
	}
	if all := slices.Collect(parts); !same(all, wantParts) {
		t.Errorf("Chunks of bytes and sizes that were changed behind the call: %v", all)
	}
	if !same(lists, bytesOf(want)) || !bytes.Equal(open, rest) || !bytes.Equal(wrapped, []byte{0, 5, 0, 0, 6, 7, 0}) {
		t.Errorf("answers that hang on what was handed in: %v, open %v, wrapped %v", lists, open, wrapped)
	}
}

// P6.2, with P6.1: bytes that are changed while their parts or segments are ranged over are given as they were.
func TestChangedWithin(t *testing.T) {
	b := []byte{5, 0, 6, 0, 7, 0}
	was := slices.Clone(b)
	n := 0
	for at, s := range fence.Segments(b) {
		if at != 2*n || !bytes.Equal(s, []byte{byte(5 + n)}) {
			t.Errorf("segment %d: %v at %d", n, s, at)
		}
		n++
		clear(b)
	}
	if n != 3 {
		t.Errorf("%d segments", n)
	}
	copy(b, was)
	sizes := []int{2, 1}
	var all [][]byte
	for part := range fence.Chunks(b, sizes...) {
		all = append(all, part)
		clear(b)
		clear(sizes)
	}
	if !same(all, [][]byte{{5, 0}, {6}, {0, 7}, {0}}) {
		t.Errorf("parts: %v", all)
	}
}
