package cobs_test

import (
	"bytes"
	"math"
	"slices"
	"testing"

	"cuneiform/api"
	"cuneiform/cobs"
)

// blocksOf: the blocks as the chapter's words say it, from what stands between the noughts.
func blocksOf(b []byte) [][]byte {
	var out [][]byte
	rows := bytes.Split(b, []byte{0})
	for i, row := range rows {
		full := false
		for len(row) >= 254 {
			out = append(out, row[:254])
			row, full = row[254:], true
		}
		if i < len(rows)-1 || len(row) > 0 || !full {
			out = append(out, row)
		}
	}
	return out
}

// stuffedOf: bytes, stuffed as the chapter's words say it.
func stuffedOf(b []byte) []byte {
	var out []byte
	for _, block := range blocksOf(b) {
		out = slices.Concat(out, []byte{byte(len(block) + 1)}, block)
	}
	return out
}

// row: n bytes other than 0.
func row(n int) []byte {
	out := make([]byte, n)
	for i := range out {
		out[i] = byte(1 + (i*7+n)%255)
	}
	return out
}

// plains: bytes with noughts and without, of lengths at which something may turn.
func plains() [][]byte {
	out := [][]byte{nil, {}, {0}, {0, 0}, {0, 0, 0}, {5}, {5, 0}, {0, 5}, {5, 0, 6}, {0, 5, 0}, {255}, {1, 1}, {255, 0, 255}}
	for c := range 256 {
		out = append(out, []byte{byte(c)})
	}
	nought := []byte{0}
	for _, n := range []int{1, 2, 252, 253, 254, 255, 256, 507, 508, 509, 510, 762, 763, 1016, 3000} {
		b := row(n)
		out = append(out, b, make([]byte, n))
		out = append(out, slices.Concat(nought, b), slices.Concat(b, nought), slices.Concat(nought, b, nought))
		out = append(out, slices.Concat(b, nought, nought), slices.Concat(nought, nought, b), slices.Concat(b, []byte{9}))
		out = append(out, slices.Concat(b, nought, b), slices.Concat(b, nought, b, nought, []byte{7}))
		for _, at := range []int{0, 1, 2, 100, 252, 253, 254, 255, 256, 506, 507, 508, 509, n - 2, n - 1} {
			if at >= 0 && at < n {
				c := slices.Clone(b)
				c[at] = 0
				out = append(out, c)
			}
		}
	}
	return out
}

// rows: calls f with all rows of up to most bytes of an alphabet, behind a beginning.
func rows(begin, alphabet []byte, most int, f func(b []byte)) {
	f(slices.Clone(begin))
	if most == 0 {
		return
	}
	for _, c := range alphabet {
		rows(append(slices.Clone(begin), c), alphabet, most-1, f)
	}
}

// given: what Blocks gives, each one copied at once.
func given(b []byte) [][]byte {
	var out [][]byte
	for block := range cobs.Blocks(b) {
		out = append(out, slices.Clone(block))
	}
	return out
}

func same(a, b [][]byte) bool { return slices.EqualFunc(a, b, bytes.Equal) }

// short: bytes as a fault tells them.
func short(b []byte) []byte { return b[:min(len(b), 12)] }

// are: whether stuffed bytes are decoded as these.
func are(t *testing.T, s, want []byte) {
	t.Helper()
	if b, e := cobs.Decode(s); e != api.OK || !bytes.Equal(b, want) {
		t.Errorf("Decode of %d bytes, %v..: %d bytes, %v.., %d, not %d bytes, %v..", len(s), short(s), len(b), short(b), e, len(want), short(want))
	}
	if !cobs.Stuffed(s) {
		t.Errorf("Stuffed of %d bytes, %v..: false", len(s), short(s))
	}
}

// none: whether bytes are told to be what no bytes are, stuffed.
func none(t *testing.T, s []byte) {
	t.Helper()
	if b, e := cobs.Decode(s); e != api.ErrStuff || len(b) > 0 {
		t.Errorf("Decode of %d bytes, %v..: %d bytes, %v.., %d", len(s), short(s), len(b), short(b), e)
	}
	if cobs.Stuffed(s) {
		t.Errorf("Stuffed of %d bytes, %v..: true", len(s), short(s))
	}
}

// P5.1: bytes whose blocks are known.
func TestKnown(t *testing.T) {
	full, most := row(254), row(253)
	for i, x := range []struct {
		b, s   []byte
		blocks [][]byte
	}{
		{nil, []byte{1}, [][]byte{{}}},
		{[]byte{}, []byte{1}, [][]byte{{}}},
		{[]byte{0}, []byte{1, 1}, [][]byte{{}, {}}},
		{[]byte{0, 0}, []byte{1, 1, 1}, [][]byte{{}, {}, {}}},
		{[]byte{5}, []byte{2, 5}, [][]byte{{5}}},
		{[]byte{5, 0}, []byte{2, 5, 1}, [][]byte{{5}, {}}},
		{[]byte{0, 5}, []byte{1, 2, 5}, [][]byte{{}, {5}}},
		{[]byte{5, 0, 6}, []byte{2, 5, 2, 6}, [][]byte{{5}, {6}}},
		{[]byte{5, 0, 0, 6}, []byte{2, 5, 1, 2, 6}, [][]byte{{5}, {}, {6}}},
		{[]byte{1, 2, 3, 4}, []byte{5, 1, 2, 3, 4}, [][]byte{{1, 2, 3, 4}}},
		{most, slices.Concat([]byte{254}, most), [][]byte{most}},
		{slices.Concat(most, []byte{0}), slices.Concat([]byte{254}, most, []byte{1}), [][]byte{most, {}}},
		{slices.Concat(most, []byte{0, 9}), slices.Concat([]byte{254}, most, []byte{2, 9}), [][]byte{most, {9}}},
		{full, slices.Concat([]byte{255}, full), [][]byte{full}},
		{slices.Concat(full, []byte{0}), slices.Concat([]byte{255}, full, []byte{1, 1}), [][]byte{full, {}, {}}},
		{slices.Concat(full, []byte{9}), slices.Concat([]byte{255}, full, []byte{2, 9}), [][]byte{full, {9}}},
		{slices.Concat(full, []byte{0, 9}), slices.Concat([]byte{255}, full, []byte{1, 2, 9}), [][]byte{full, {}, {9}}},
		{slices.Concat(full, []byte{9, 0}), slices.Concat([]byte{255}, full, []byte{2, 9, 1}), [][]byte{full, {9}, {}}},
		{slices.Concat([]byte{0}, full), slices.Concat([]byte{1, 255}, full), [][]byte{{}, full}},
		{slices.Concat(full, full), slices.Concat([]byte{255}, full, []byte{255}, full), [][]byte{full, full}},
		{slices.Concat(full, full, []byte{9}), slices.Concat([]byte{255}, full, []byte{255}, full, []byte{2, 9}), [][]byte{full, full, {9}}},
		{slices.Concat(full, []byte{0}, full), slices.Concat([]byte{255}, full, []byte{1, 255}, full), [][]byte{full, {}, full}},
	} {
		if s := cobs.Encode(x.b); !bytes.Equal(s, x.s) {
			t.Errorf("%d: Encode: %d bytes, %v.., not %d, %v..", i, len(s), short(s), len(x.s), short(x.s))
		}
		if n := cobs.Size(x.b); n != len(x.s) {
			t.Errorf("%d: Size: %d, not %d", i, n, len(x.s))
		}
		if l := given(x.b); !same(l, x.blocks) {
			t.Errorf("%d: Blocks: %d, not %d", i, len(l), len(x.blocks))
		}
		are(t, x.s, x.b)
	}
}

// P5.1, P5.3: many bytes, against the words; what is stuffed has no 0, and is decoded as it was.
func TestThereAndBack(t *testing.T) {
	check := func(b []byte) {
		want := stuffedOf(b)
		s := cobs.Encode(b)
		if !bytes.Equal(s, want) {
			t.Errorf("Encode of %d bytes, %v..: %d bytes, not %d", len(b), short(b), len(s), len(want))
		}
		if slices.Contains(s, 0) {
			t.Errorf("Encode of %d bytes, %v..: a 0 within", len(b), short(b))
		}
		if n := cobs.Size(b); n != len(want) {
			t.Errorf("Size of %d bytes, %v..: %d, not %d", len(b), short(b), n, len(want))
		}
		if l := given(b); !same(l, blocksOf(b)) {
			t.Errorf("Blocks of %d bytes, %v..: %d, not %d", len(b), short(b), len(l), len(blocksOf(b)))
		}
		are(t, want, b)
	}
	for _, b := range plains() {
		check(b)
	}
	rows(nil, []byte{0, 1, 2, 255}, 5, check)
	for _, n := range []int{252, 253, 254, 507, 508} {
		rows(row(n), []byte{0, 1, 255}, 3, check)
	}
}

// P5.1, P5.3: of all rows that begin so, just those that some bytes are, stuffed, are decoded, and as these bytes.
func TestNoOthers(t *testing.T) {
	alphabet := []byte{0, 1, 2, 3, 4, 5, 255}
	full := slices.Concat([]byte{255}, row(254))
	for _, x := range []struct {
		stuffed, plain []byte
		more           int // how many bytes may stand behind
	}{
		{nil, nil, 5},
		{full, row(254), 4},
		{slices.Concat([]byte{254}, row(253)), row(253), 4},
		{slices.Concat([]byte{1}, full), slices.Concat([]byte{0}, row(254)), 3},
		{slices.Concat(full, full), slices.Concat(row(254), row(254)), 3},
	} {
		of := map[string][]byte{}
		rows(x.plain, alphabet, x.more, func(b []byte) { of[string(stuffedOf(b))] = b })
		found := 0
		rows(x.stuffed, alphabet, x.more, func(s []byte) {
			b, ok := of[string(s)]
			if !ok {
				none(t, s)
				return
			}
			found++
			are(t, s, b)
		})
		if found < 10 {
			t.Errorf("behind %d bytes: only %d rows are stuffed", len(x.stuffed), found)
		}
	}
}

// P5.1: bytes that none are, stuffed.
func TestWrong(t *testing.T) {
	full := slices.Concat([]byte{255}, row(254))
	for _, s := range [][]byte{
		nil, {}, // no bytes at all
		{0}, {0, 0}, {0, 1}, {1, 0}, {2, 0}, {2, 5, 0}, {3, 5, 0}, {3, 0, 5}, {0, 2, 5}, {1, 0, 1}, // a 0 within
		{2}, {3, 5}, {255}, {254, 1}, {1, 2}, {1, 1, 2}, {2, 5, 5}, {2, 5, 3, 1}, {4, 1, 1}, // a code that is more than there is
		full[:254], slices.Concat([]byte{254}, row(252)), slices.Concat([]byte{1}, full[:254]), slices.Concat(full, full[:254]),
		slices.Concat(full, []byte{2}), slices.Concat(full, []byte{255}), slices.Concat(full, []byte{9}),
		slices.Concat(full, []byte{1}), // an empty block behind one of 254, at the end
		slices.Concat(full, full, []byte{1}),
		slices.Concat([]byte{1}, full, []byte{1}),
		slices.Concat([]byte{2, 5}, full, []byte{1}),
		slices.Concat(full, []byte{1}, full, []byte{1}),
		slices.Concat(full, []byte{0}),
		slices.Concat(full, []byte{1, 0}),
	} {
		none(t, s)
	}
	// the same empty block is right, where a 0 is ahead of it or something behind
	are(t, slices.Concat(full, []byte{1, 1}), slices.Concat(row(254), []byte{0}))
	are(t, slices.Concat(full, []byte{1, 2, 9}), slices.Concat(row(254), []byte{0, 9}))
	are(t, slices.Concat(full, []byte{2, 9, 1}), slices.Concat(row(254), []byte{9, 0}))
	are(t, slices.Concat([]byte{254}, row(253), []byte{1}), slices.Concat(row(253), []byte{0}))
}

// P5.1: a 0 at each place of stuffed bytes.
func TestNoughtWithin(t *testing.T) {
	for _, b := range plains() {
		if len(b) > 600 {
			continue
		}
		s := stuffedOf(b)
		for at := range s {
			bad := slices.Clone(s)
			bad[at] = 0
			none(t, bad)
			none(t, slices.Insert(slices.Clone(s), at, 0))
		}
		none(t, append(slices.Clone(s), 0))
	}
}

// P5.2: Most, at what is known, and as the greatest Size.
func TestMost(t *testing.T) {
	for _, x := range [][2]int{
		{math.MinInt, 0}, {-255, 0}, {-254, 0}, {-2, 0}, {-1, 0}, {0, 1}, {1, 2}, {2, 3}, {253, 254}, {254, 255}, {255, 257}, {256, 258},
		{507, 509}, {508, 510}, {509, 512}, {762, 765}, {763, 767}, {254000, 255000}, {254001, 255002}, {1 << 30, 1<<30 + 4227331},
	} {
		if n := cobs.Most(x[0]); n != x[1] {
			t.Errorf("Most(%d): %d, not %d", x[0], n, x[1])
		}
	}
	for n := range 1100 {
		if most, size := cobs.Most(n), cobs.Size(row(n)); most != size {
			t.Errorf("Most(%d): %d, but %d bytes other than 0 have %d", n, most, n, size)
		}
	}
}

// P5.3: Size is from n + 1 to Most(n), and just n + 1 of up to 254.
func TestSizeIsBetween(t *testing.T) {
	check := func(b []byte) {
		n, size := len(b), cobs.Size(b)
		if size < n+1 || size > cobs.Most(n) || n <= 254 && size != n+1 {
			t.Errorf("Size of %d bytes, %v..: %d", n, short(b), size)
		}
	}
	for _, b := range plains() {
		check(b)
	}
	for n := range 600 {
		check(row(n))
		check(make([]byte, n))
		for at := range n {
			b := row(n)
			b[at] = 0
			check(b)
		}
	}
}

// P5.3: stuffed bytes without their last one, and with any one more, aren't those of the same bytes.
func TestOneFewerOneMore(t *testing.T) {
	for _, b := range plains() {
		s := stuffedOf(b)
		if got, e := cobs.Decode(s[:len(s)-1]); e == api.OK && bytes.Equal(got, b) || e != api.OK && len(got) > 0 {
			t.Errorf("%d bytes, %v.., stuffed, without the last one: %d bytes, %d", len(b), short(b), len(got), e)
		}
		for c := range 256 {
			if got, e := cobs.Decode(append(slices.Clone(s), byte(c))); e == api.OK && bytes.Equal(got, b) || e != api.OK && len(got) > 0 {
				t.Errorf("%d bytes, %v.., stuffed, and %d: %d bytes, %d", len(b), short(b), c, len(got), e)
			}
		}
	}
	are(t, []byte{2, 5, 1}, []byte{5, 0}) // one more may be those of others
	are(t, []byte{1}, nil)                // and one fewer
	none(t, []byte{1}[:0])
	none(t, []byte{2, 5}[:1])
	none(t, []byte{2, 5, 0})
	none(t, []byte{2, 5, 2})
}

// P5.1: what Blocks gives is never nil, is given anew each time, and a loop may end at any.
func TestBlocksIsRangedOver(t *testing.T) {
	if cobs.Blocks(nil) == nil || cobs.Blocks([]byte{}) == nil {
		t.Fatal("Blocks is nil")
	}
	b := slices.Concat([]byte{5, 0, 0, 6, 7, 0}, row(254), row(254), []byte{0, 8, 0})
	want := blocksOf(b)
	seq := cobs.Blocks(b)
	for _, most := range []int{1, 3, len(want), 2, 5, 1, len(want)} {
		var got [][]byte
		for block := range seq {
			got = append(got, block)
			if len(got) == most {
				break
			}
		}
		if !same(got, want[:most]) {
			t.Errorf("the first %d: %v", most, got)
		}
	}
	outer := 0
	for block := range seq {
		if !bytes.Equal(block, want[outer]) {
			t.Errorf("block %d, with a loop in the loop: %v", outer, block)
		}
		outer++
		var inner [][]byte
		for block := range seq {
			inner = append(inner, block)
		}
		if !same(inner, want) {
			t.Errorf("a loop in the loop: %d blocks", len(inner))
		}
	}
	for block := range cobs.Blocks(nil) { // only the first is asked for, and there is but one
		if len(block) > 0 {
			t.Errorf("the block of no bytes: %v", block)
		}
		break
	}
}

// P5.1: blocks are new memory, each one.
func TestBlocksAreNew(t *testing.T) {
	b := slices.Concat([]byte{5, 6, 0, 7}, row(254), row(254), []byte{0, 0, 8, 0})
	was := slices.Clone(b)
	want := blocksOf(was)
	seq := cobs.Blocks(b)
	at := 0
	for block := range seq { // what is put to a block, or over it, comes neither to b nor to those behind it
		if !bytes.Equal(block, want[at]) {
			t.Errorf("block %d: %v, not %v", at, short(block), short(want[at]))
		}
		at++
		clear(block[:cap(block)])
		_ = append(block, 99, 99, 99)
	}
	if at != len(want) || !bytes.Equal(b, was) {
		t.Errorf("%d blocks; the bytes are changed, if they are %v..", at, short(b))
	}
	all := slices.Collect(seq)
	if !same(all, want) {
		t.Error("blocks that were changed are given as they were changed")
	}
	for i := range all { // nor to those ahead of it
		for j := range all[i][:cap(all[i])] {
			all[i][:cap(all[i])][j] = 99
		}
		_ = append(all[i], 99, 99, 99)
		for k, block := range all {
			if k > i && !bytes.Equal(block, want[k]) || k < i && !bytes.Equal(block, bytes.Repeat([]byte{99}, len(want[k]))) {
				t.Errorf("blocks %d and %d share memory", i, k)
			}
		}
	}
	if !bytes.Equal(b, was) || !same(slices.Collect(seq), want) {
		t.Error("blocks share memory with the bytes, or with those of another loop")
	}
}

// The rules on memory: what is handed in is neither kept nor changed, nor its spare room.
func TestHandedInIsLeft(t *testing.T) {
	for _, b := range [][]byte{{2, 5, 2, 6, 1, 9, 0, 9}, {0, 0, 0}, slices.Concat([]byte{255}, row(254), []byte{2, 9, 0, 3}), row(600)} {
		was := slices.Clone(b)
		for size := range len(b) + 1 {
			cobs.Encode(b[:size])
			cobs.Decode(b[:size])
			cobs.Size(b[:size])
			cobs.Stuffed(b[:size])
			for range cobs.Blocks(b[:size]) {
			}
			if !bytes.Equal(b, was) {
				t.Fatalf("%d bytes: changed to %v..", size, short(b))
			}
		}
	}
	b := []byte{2, 5, 2, 6}
	s := cobs.Encode(b)
	p, e := cobs.Decode(b)
	seq := cobs.Blocks(b)
	clear(b)
	if !bytes.Equal(s, []byte{5, 2, 5, 2, 6}) || !bytes.Equal(p, []byte{5, 0, 6}) || e != api.OK {
		t.Errorf("answers that hang on what was handed in: %v, %v, %d", s, p, e)
	}
	if l := slices.Collect(seq); !same(l, [][]byte{{2, 5, 2, 6}}) {
		t.Errorf("Blocks of bytes that were changed behind the call: %v", l)
	}
}

// The rules on memory: answers are new, and share none with one another.
func TestAnswersAreNew(t *testing.T) {
	in := []byte{5, 0, 6}
	s, again := cobs.Encode(in), cobs.Encode(in)
	clear(s[:cap(s)])
	if !bytes.Equal(again, []byte{2, 5, 2, 6}) || !bytes.Equal(in, []byte{5, 0, 6}) {
		t.Errorf("answers of Encode share memory: %v, %v", again, in)
	}
	b, _ := cobs.Decode(again)
	c, _ := cobs.Decode(again)
	clear(b[:cap(b)])
	_ = append(b, 9, 9, 9, 9)
	if !bytes.Equal(c, []byte{5, 0, 6}) || !bytes.Equal(again, []byte{2, 5, 2, 6}) {
		t.Errorf("answers of Decode share memory: %v, %v", c, again)
	}
}
