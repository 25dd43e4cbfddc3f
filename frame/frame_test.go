package frame_test

import (
	"bytes"
	"hash/crc32"
	"math"
	"slices"
	"strconv"
	"testing"

	"cuneiform/api"
	"cuneiform/frame"
	"cuneiform/head"
)

// sumOf: the four bytes of bytes' sum, by division, of a sum of another make.
func sumOf(b []byte) []byte {
	n := crc32.ChecksumIEEE(b)
	var out []byte
	for range 4 {
		out = append(out, byte(n%256))
		n /= 256
	}
	return out
}

// stuffedOf: bytes, stuffed as chapter 5 says it; at most 254, or noughts among them, so that no block ends for being full but the last one.
func stuffedOf(b []byte) []byte {
	var out []byte
	for _, row := range bytes.Split(b, []byte{0}) {
		out = slices.Concat(out, []byte{byte(len(row) + 1)}, row)
	}
	return out
}

// headOf: a head's bytes, as chapter 7 says it, whatever they are.
func headOf(h head.Head) []byte {
	out := []byte{byte(h.Version), byte(h.Kind)}
	for n := h.Seq; len(out) < 6; n /= 256 {
		out = append(out, byte(n%256))
	}
	return append(out, byte(h.Index), byte(h.Count))
}

// sealed: the segment of bytes and their sum, whatever they are.
func sealed(parts ...[]byte) []byte {
	b := slices.Concat(parts...)
	return stuffedOf(slices.Concat(b, sumOf(b)))
}

// segmentOf: a frame's segment as the chapter's words say it.
func segmentOf(f frame.Frame) []byte { return sealed(headOf(f.Head), f.Payload) }

// wireOf: frames on the wire as the chapter's words say it.
func wireOf(l ...frame.Frame) []byte {
	var out []byte
	for _, f := range l {
		out = slices.Concat(out, []byte{0}, segmentOf(f), []byte{0})
	}
	return out
}

// row: n bytes other than 0.
func row(n int) []byte {
	out := make([]byte, n)
	for i := range out {
		out[i] = byte(1 + (i*7+n)%255)
	}
	return out
}

// of: a frame of a plain head, with these bytes.
func of(b ...byte) frame.Frame {
	return frame.Frame{Head: head.Head{Version: 1, Kind: 2, Seq: 7, Index: 0, Count: 1}, Payload: b}
}

// payloads: of each length that may be, of noughts alone, without a nought, and with some; each byte there is; those of which a wrong stuffing would tell.
func payloads() [][]byte {
	var out [][]byte
	for n := 1; n <= 242; n++ {
		some := row(n)
		for i := n % 5; i < n; i += 3 + n%7 {
			some[i] = 0
		}
		first, last := row(n), row(n)
		first[0], last[n-1] = 0, 0
		out = append(out, row(n), make([]byte, n), bytes.Repeat([]byte{255}, n), some, first, last)
	}
	for c := range 256 {
		out = append(out, []byte{byte(c)}, []byte{byte(c), 0, byte(c)})
	}
	return out
}

// heads: of each version and kind, and numbers, indices and counts at their bounds.
func heads() []head.Head {
	var out []head.Head
	for _, version := range []int{1, 2} {
		for kind := 1; kind <= 5; kind++ {
			for _, seq := range []uint32{0, 1, 77, 256, 0x04030201, 1<<31 - 1, 1 << 31, math.MaxUint32} {
				for _, x := range [][2]int{{0, 1}, {0, 2}, {1, 2}, {1, 3}, {0, 255}, {254, 255}, {127, 128}} {
					out = append(out, head.Head{Version: version, Kind: kind, Seq: seq, Index: x[0], Count: x[1]})
				}
			}
		}
	}
	return out
}

// wrongHeads: heads that may not be, and what is told of them; those of more than one fault, too.
func wrongHeads() []head.Head {
	return []head.Head{
		{}, {Version: 0, Kind: 1, Count: 1}, {Version: 3, Kind: 1, Count: 1}, {Version: 255, Kind: 5, Count: 1}, {Version: 3, Kind: 6, Index: 7, Count: 7}, {Version: 3, Kind: 1, Index: 1, Count: 1},
		{Version: 1, Kind: 0, Count: 1}, {Version: 2, Kind: 6, Count: 1}, {Version: 1, Kind: 255, Count: 255}, {Version: 2, Kind: 6, Index: 2, Count: 1}, {Version: 2, Kind: 0},
		{Version: 1, Kind: 1, Count: 0}, {Version: 2, Kind: 5, Index: 1, Count: 1}, {Version: 2, Kind: 5, Index: 255, Count: 255}, {Version: 1, Kind: 3, Index: 9, Count: 3},
	}
}

// errorOf: what is wrong with a head, as chapter 7 says it.
func errorOf(h head.Head) api.Errno {
	switch {
	case h.Version != 1 && h.Version != 2:
		return api.ErrVersion
	case h.Kind < 1 || h.Kind > 5:
		return api.ErrKind
	case h.Count < 1 || h.Count > 255 || h.Index < 0 || h.Index >= h.Count:
		return api.ErrForm
	}
	return api.OK
}

// told: what Frames gives.
type told struct {
	f frame.Frame
	e api.Errno
}

// given: all that Frames gives.
func given(c *frame.Codec, b []byte) []told {
	var out []told
	for f, e := range c.Frames(b) {
		out = append(out, told{f, e})
	}
	return out
}

// same: frames by their own fields, not by Same.
func same(a, b frame.Frame) bool { return a.Head == b.Head && bytes.Equal(a.Payload, b.Payload) }

func sameTold(a, b []told) bool {
	return slices.EqualFunc(a, b, func(x, y told) bool { return same(x.f, y.f) && x.e == y.e })
}

// shown: what Frames gave, as a fault tells it.
func shown(l []told) string {
	out := ""
	for _, x := range l {
		out += "[" + frame.Line(x.f) + "] " + strconv.Itoa(int(x.e)) + "; "
	}
	return out
}

// short: bytes as a fault tells them.
func short(b []byte) []byte { return b[:min(len(b), 16)] }

// taken: that a frame's segment is this one, on the wire between noughts, and is unpacked as the frame.
func taken(t *testing.T, c *frame.Codec, f frame.Frame, want []byte) {
	t.Helper()
	if e := c.Check(f); e != api.OK {
		t.Errorf("Check of %v, %d bytes: %d", f.Head, len(f.Payload), e)
	}
	if s, e := c.Segment(f); e != api.OK || !bytes.Equal(s, want) {
		t.Errorf("Segment of %v, %d bytes: %d bytes, %v.., %d, not %d bytes, %v..", f.Head, len(f.Payload), len(s), short(s), e, len(want), short(want))
	}
	if b, e := c.Pack(f); e != api.OK || !bytes.Equal(b, slices.Concat([]byte{0}, want, []byte{0})) {
		t.Errorf("Pack of %v, %d bytes: %d bytes, %v.., %d", f.Head, len(f.Payload), len(b), short(b), e)
	}
	if got, e := c.Unpack(want); e != api.OK || !same(got, f) {
		t.Errorf("Unpack of %d bytes, %v..: %v, %d bytes, %d, not %v, %d bytes", len(want), short(want), got.Head, len(got.Payload), e, f.Head, len(f.Payload))
	}
}

// refused: that Check, Segment and Pack tell this error of a frame, and no bytes.
func refused(t *testing.T, c *frame.Codec, f frame.Frame, want api.Errno) {
	t.Helper()
	if e := c.Check(f); e != want {
		t.Errorf("Check of %v, %d bytes: %d, not %d", f.Head, len(f.Payload), e, want)
	}
	if s, e := c.Segment(f); e != want || len(s) > 0 {
		t.Errorf("Segment of %v, %d bytes: %d bytes, %d, not %d", f.Head, len(f.Payload), len(s), e, want)
	}
	if b, e := c.Pack(f); e != want || len(b) > 0 {
		t.Errorf("Pack of %v, %d bytes: %d bytes, %d, not %d", f.Head, len(f.Payload), len(b), e, want)
	}
}

// none: that Unpack tells this error of a segment, and the zero frame.
func none(t *testing.T, c *frame.Codec, s []byte, want api.Errno) {
	t.Helper()
	if f, e := c.Unpack(s); e != want || f.Head != (head.Head{}) || f.Payload != nil {
		t.Errorf("Unpack of %d bytes, %v..: %v, %d bytes, %d, not %d", len(s), short(s), f.Head, len(f.Payload), e, want)
	}
}

// P8.1, P8.2: frames whose segments are known.
func TestKnown(t *testing.T) {
	if frame.Over != 12 || frame.Most != 242 {
		t.Error("constants", frame.Over, frame.Most)
	}
	c := frame.New()
	for _, x := range []struct {
		h    head.Head
		b, s []byte
	}{
		{head.Head{Version: 1, Kind: 2, Seq: 7, Index: 0, Count: 1}, []byte{5}, []byte{4, 1, 2, 7, 1, 1, 1, 7, 1, 5, 208, 252, 129, 31}},
		{head.Head{Version: 1, Kind: 2, Seq: 7, Index: 0, Count: 1}, []byte{5, 0, 6}, []byte{4, 1, 2, 7, 1, 1, 1, 3, 1, 5, 6, 6, 99, 211, 137, 157}},
		{head.Head{Version: 2, Kind: 4, Seq: 258, Index: 0, Count: 3}, []byte{0}, []byte{5, 2, 4, 2, 1, 1, 1, 2, 3, 5, 157, 163, 91, 59}},
		{head.Head{Version: 1, Kind: 1, Seq: 0, Index: 0, Count: 1}, []byte{0}, []byte{3, 1, 1, 1, 1, 1, 1, 2, 1, 5, 50, 49, 195, 36}},
		{head.Head{Version: 2, Kind: 3, Seq: 0x04030201, Index: 1, Count: 2}, []byte{9, 8, 7, 6}, []byte{17, 2, 3, 1, 2, 3, 4, 1, 2, 9, 8, 7, 6, 188, 243, 93, 209}},
		{head.Head{Version: 2, Kind: 5, Seq: math.MaxUint32, Index: 254, Count: 255}, []byte{255, 255, 255}, []byte{16, 2, 5, 255, 255, 255, 255, 254, 255, 255, 255, 255, 231, 230, 139, 229}},
		{head.Head{Version: 2, Kind: 4, Seq: 0x01010101, Index: 1, Count: 3}, []byte{5}, []byte{14, 2, 4, 1, 1, 1, 1, 1, 3, 5, 109, 105, 199, 254}},
	} {
		f := frame.Frame{Head: x.h, Payload: x.b}
		if !bytes.Equal(segmentOf(f), x.s) {
			t.Fatalf("%v: the test's own segment is wrong", x.h)
		}
		taken(t, c, f, x.s)
	}
}

// P8.1, P8.2, P8.4: frames of each payload's length and of each head are unpacked as they were packed.
func TestPackedAndUnpacked(t *testing.T) {
	c := frame.New()
	all := heads()
	for i, b := range payloads() {
		f := frame.Frame{Head: all[i%len(all)], Payload: b}
		taken(t, c, f, segmentOf(f))
		taken(t, c, of(b...), segmentOf(of(b...)))
	}
	for i, h := range all {
		for _, n := range []int{1, 2, 9, 241, 242} {
			f := frame.Frame{Head: h, Payload: row(n)}
			if i%2 == 1 {
				f.Payload = make([]byte, n)
			}
			taken(t, c, f, segmentOf(f))
		}
	}
}

// P8.1, P8.2: blocks of 13 and of 254 bytes, with noughts and without any, of which the greatest has a segment of just 255 bytes.
func TestLeastAndGreatest(t *testing.T) {
	c := frame.New()
	h := head.Head{Version: 2, Kind: 4, Seq: 0x01010101, Index: 1, Count: 3}
	for _, x := range []struct {
		b    []byte
		size int
		code byte // the first one: what has no nought is one block
	}{
		{[]byte{5}, 14, 14}, {[]byte{0}, 14, 9}, {row(242), 255, 255}, {make([]byte, 242), 255, 9},
	} {
		f := frame.Frame{Head: h, Payload: x.b}
		s := segmentOf(f)
		if len(s) != x.size || s[0] != x.code {
			t.Fatalf("%d bytes: the test's own segment has %d bytes, and begins with %d", len(x.b), len(s), s[0])
		}
		taken(t, c, f, s)
	}
}

// P8.1: what is wrong with a frame: a head that may not be, ahead of a payload that may not be.
func TestCheck(t *testing.T) {
	c := frame.New()
	for _, n := range []int{243, 244, 254, 255, 256, 257, 1000, 242 + 256} {
		refused(t, c, of(row(n)...), api.ErrLong)
		refused(t, c, of(make([]byte, n)...), api.ErrLong)
	}
	for _, h := range heads() {
		refused(t, c, frame.Frame{Head: h}, api.ErrShort)
		refused(t, c, frame.Frame{Head: h, Payload: []byte{}}, api.ErrShort)
		refused(t, c, frame.Frame{Head: h, Payload: row(243)}, api.ErrLong)
	}
	far := []head.Head{
		{Version: -1, Kind: 1, Count: 1}, {Version: 257, Kind: 1, Count: 1}, {Version: math.MinInt, Kind: math.MaxInt, Count: -1}, {Version: 1, Kind: -1, Count: 1}, {Version: 1, Kind: 258, Count: 1},
		{Version: 1, Kind: 1, Index: -1, Count: 1}, {Version: 1, Kind: 1, Index: 0, Count: 256}, {Version: 1, Kind: 1, Index: 0, Count: 257}, {Version: 1, Kind: 1, Index: 256, Count: 1},
		{Version: 2, Kind: 2, Index: 0, Count: -1}, {Version: 2, Kind: 2, Index: math.MaxInt, Count: math.MinInt}, {Version: 1<<32 + 1, Kind: 1<<32 + 1, Count: 1},
	}
	for _, h := range append(wrongHeads(), far...) {
		want := errorOf(h)
		if want == api.OK {
			t.Fatalf("%v may be", h)
		}
		for _, n := range []int{1, 0, 242, 243, 300} {
			refused(t, c, frame.Frame{Head: h, Payload: row(n)}, want)
		}
	}
	refused(t, c, frame.Frame{}, api.ErrVersion)
}

// P8.1: no frames, and several, one behind the other; also the same one twice.
func TestPack(t *testing.T) {
	c := frame.New()
	for _, l := range [][]frame.Frame{nil, {}} {
		if b, e := c.Pack(l...); len(b) > 0 || e != api.OK {
			t.Errorf("no frames: %v, %d", b, e)
		}
	}
	if b, e := c.Pack(); len(b) > 0 || e != api.OK {
		t.Errorf("nothing: %v, %d", b, e)
	}
	var l []frame.Frame
	for i, h := range heads()[:60] {
		l = append(l, frame.Frame{Head: h, Payload: row(1 + i*4)})
	}
	l = append(l, l[3], l[3], of(0), of(make([]byte, 242)...))
	for n := range len(l) + 1 {
		for _, some := range [][]frame.Frame{l[:n], l[n:]} {
			if b, e := c.Pack(some...); e != api.OK || !bytes.Equal(b, wireOf(some...)) {
				t.Errorf("%d frames: %d bytes, %d", len(some), len(b), e)
			}
		}
	}
}

// P8.1: a wrong frame among right ones is told, nothing else; of several the first.
func TestPackWrong(t *testing.T) {
	c := frame.New()
	right := of(5)
	wrong := []struct {
		f frame.Frame
		e api.Errno
	}{
		{of(), api.ErrShort}, {of(row(243)...), api.ErrLong}, {frame.Frame{}, api.ErrVersion},
		{frame.Frame{Head: head.Head{Version: 1, Kind: 6, Count: 1}, Payload: []byte{5}}, api.ErrKind},
		{frame.Frame{Head: head.Head{Version: 1, Kind: 1, Index: 1, Count: 1}, Payload: []byte{5}}, api.ErrForm},
	}
	for _, x := range wrong {
		for _, l := range [][]frame.Frame{{x.f}, {x.f, right}, {right, x.f}, {right, x.f, right}, {right, right, right, x.f}} {
			if b, e := c.Pack(l...); len(b) > 0 || e != x.e {
				t.Errorf("%d frames, one of them wrong: %v, %d, not %d", len(l), b, e, x.e)
			}
		}
		for _, y := range wrong {
			if b, e := c.Pack(right, x.f, right, y.f); len(b) > 0 || e != x.e {
				t.Errorf("two wrong: %v, %d, not %d", b, e, x.e)
			}
		}
		if b, e := c.Pack(right, right); e != api.OK || !bytes.Equal(b, wireOf(right, right)) {
			t.Errorf("behind a refused call: %v, %d", b, e)
		}
	}
}

// P8.2: segments of more than 255 bytes, ahead of what they are; and of just 255.
func TestUnpackLong(t *testing.T) {
	c := frame.New()
	most := of(row(242)...)
	s := segmentOf(most)
	taken(t, c, most, s)
	for _, n := range []int{256, 257, 300, 511, 512, 1000, 70000} {
		none(t, c, make([]byte, n), api.ErrLong)
		none(t, c, row(n), api.ErrLong)
		none(t, c, bytes.Repeat([]byte{1}, n), api.ErrLong)
		none(t, c, append(slices.Clone(s), make([]byte, n-255)...), api.ErrLong)
	}
	long := sealed(headOf(most.Head), row(243)) // right but for its length
	if len(long) != 256 {
		t.Fatalf("the test's own segment has %d bytes", len(long))
	}
	none(t, c, long, api.ErrLong)
	none(t, c, append(slices.Clone(s), 1), api.ErrLong)
	none(t, c, make([]byte, 255), api.ErrStuff)
	none(t, c, bytes.Repeat([]byte{255}, 254), api.ErrStuff)
	none(t, c, bytes.Repeat([]byte{255}, 255), api.ErrSum) // 254 bytes that aren't a frame's
	none(t, c, bytes.Repeat([]byte{1}, 255), api.ErrSum)   // 254 noughts
}

// P8.2: segments that aren't stuffed, ahead of how many bytes they would be.
func TestUnpackStuff(t *testing.T) {
	c := frame.New()
	for _, s := range [][]byte{
		nil, {}, {0}, {2}, {255}, {0, 0}, {1, 0}, {2, 0}, {3, 5}, {1, 1, 0}, {2, 5, 0}, {2, 5, 9, 6}, make([]byte, 13), make([]byte, 14), row(14), row(200),
	} {
		none(t, c, s, api.ErrStuff)
	}
	s := segmentOf(of(5, 0, 6))
	for n := range len(s) { // no nought may stand within
		bad := slices.Clone(s)
		bad[n] = 0
		none(t, c, bad, api.ErrStuff)
	}
	none(t, c, slices.Concat([]byte{0}, s), api.ErrStuff) // nor about it: a segment is what stands between
	none(t, c, slices.Concat(s, []byte{0}), api.ErrStuff)
	none(t, c, slices.Concat([]byte{0}, s, []byte{0}), api.ErrStuff)
}

// P8.2: blocks of fewer than 13 bytes, ahead of what they are; also those of a right head and its sum, without a payload.
func TestUnpackShort(t *testing.T) {
	c := frame.New()
	for n := range 13 {
		none(t, c, stuffedOf(row(n)), api.ErrShort)
		none(t, c, stuffedOf(make([]byte, n)), api.ErrShort)
	}
	none(t, c, stuffedOf(row(13)), api.ErrSum)
	none(t, c, stuffedOf(make([]byte, 13)), api.ErrSum)
	for _, h := range append(heads(), wrongHeads()...) {
		none(t, c, sealed(headOf(h)), api.ErrShort)
		none(t, c, sealed(headOf(h)[:7]), api.ErrShort)
	}
	none(t, c, sealed(), api.ErrShort)
}

// P8.2: a sum that isn't, ahead of a head that may not be.
func TestUnpackSum(t *testing.T) {
	c := frame.New()
	payload := []byte{5, 0, 6}
	for _, h := range append(heads(), wrongHeads()...) {
		b := slices.Concat(headOf(h), payload)
		sum := sumOf(b)
		turned := slices.Clone(sum)
		slices.Reverse(turned)
		for i, other := range [][]byte{
			turned, sumOf(headOf(h)), sumOf(payload), sumOf(slices.Concat(payload, headOf(h))), {0, 0, 0, 0}, {255, 255, 255, 255},
			{sum[0] ^ 1, sum[1], sum[2], sum[3]}, {sum[0], sum[1] ^ 2, sum[2], sum[3]}, {sum[0], sum[1], sum[2] ^ 4, sum[3]}, {sum[0], sum[1], sum[2], sum[3] ^ 128},
			{^sum[0], ^sum[1], ^sum[2], ^sum[3]},
		} {
			if bytes.Equal(other, sum) {
				t.Fatalf("%v, %d: the same sum", h, i)
			}
			none(t, c, stuffedOf(slices.Concat(b, other)), api.ErrSum)
		}
		none(t, c, stuffedOf(slices.Concat(sum, b)), api.ErrSum) // the sum ahead
		none(t, c, stuffedOf(slices.Concat(b, sum, []byte{7})), api.ErrSum)
		none(t, c, stuffedOf(slices.Concat(b[1:], []byte{7, 7}, sum)), api.ErrSum)
	}
}

// P8.2: a sum that is right, and a head that may not be.
func TestUnpackHead(t *testing.T) {
	c := frame.New()
	for _, h := range wrongHeads() {
		for _, b := range [][]byte{{0}, {5}, row(242), make([]byte, 242), make([]byte, 17)} {
			none(t, c, sealed(headOf(h), b), errorOf(h))
		}
	}
	for i := range 256 {
		for _, k := range []int{0, 1, 2, 3, 5, 6, 7, 128, 254, 255} {
			for _, h := range []head.Head{{Version: i, Kind: k, Seq: 9, Index: 0, Count: 1}, {Version: k, Kind: i, Seq: 9, Index: 3, Count: 3}, {Version: 1, Kind: 5, Seq: 9, Index: i, Count: k}, {Version: 2, Kind: 1, Seq: 9, Index: k, Count: i}} {
				f := frame.Frame{Head: h, Payload: []byte{0, 8}}
				if e := errorOf(h); e != api.OK {
					none(t, c, segmentOf(f), e)
					continue
				}
				taken(t, c, f, segmentOf(f))
			}
		}
	}
}

// P8.2, P8.4: a turned bit: what is spoiled isn't taken.
func TestTurnedBits(t *testing.T) {
	c := frame.New()
	for _, b := range [][]byte{{5}, {0}, {5, 0, 6}, make([]byte, 30), row(60), row(242), make([]byte, 242)} {
		s := segmentOf(of(b...))
		for bit := range 8 * len(s) {
			bad := slices.Clone(s)
			bad[bit/8] ^= 1 << (bit % 8)
			f, e := c.Unpack(bad)
			if e != api.ErrStuff && e != api.ErrSum || !same(f, frame.Frame{}) {
				t.Errorf("%d bytes, bit %d turned: %v, %d", len(b), bit, f, e)
			}
			if bytes.IndexByte(bad, 0) >= 0 && e != api.ErrStuff {
				t.Errorf("%d bytes, bit %d turned, which makes a nought: %d", len(b), bit, e)
			}
		}
		for bit := range 8 * (len(b) + 12) { // a bit of the block
			block := slices.Concat(headOf(of().Head), b, sumOf(slices.Concat(headOf(of().Head), b)))
			block[bit/8] ^= 1 << (bit % 8)
			none(t, c, stuffedOf(block), api.ErrSum)
		}
	}
}

// P8.4: no other segment is unpacked: what is taken is what Segment makes of what it is taken as.
func TestNoOtherSegment(t *testing.T) {
	c := frame.New()
	look := func(s []byte) {
		t.Helper()
		f, e := c.Unpack(s)
		if e != api.OK {
			if !same(f, frame.Frame{}) {
				t.Errorf("beside %d: %v", e, f)
			}
			return
		}
		if again, e := c.Segment(f); e != api.OK || !bytes.Equal(again, s) {
			t.Errorf("%v.. is taken as %v, whose segment is %v.., %d", short(s), f, short(again), e)
		}
	}
	gone := func(s []byte) {
		t.Helper()
		look(s)
		if f, e := c.Unpack(s); e == api.OK {
			t.Errorf("%v.. is taken as %v", short(s), f)
		}
	}
	for _, b := range [][]byte{{5}, {0}, {1, 1}, {5, 0, 6}, row(30), make([]byte, 30), row(241), row(242), make([]byte, 242)} {
		s := segmentOf(of(b...))
		look(s)
		for n := range s {
			gone(s[:n])
			gone(s[n+1:])
			gone(slices.Concat(s[:n], s[n+1:]))
			for _, in := range []byte{0, 1, 2, 5, 254, 255} {
				gone(slices.Concat(s[:n], []byte{in}, s[n:]))
				bad := slices.Clone(s)
				bad[n] = in
				look(bad)
			}
		}
		gone(slices.Concat(s, s))
		gone(append(slices.Clone(s), 1))
		gone(append(slices.Clone(s), 2, 5))
	}
}

// P8.2: what stands in a stream: right and wrong segments, rows of noughts, and what is open.
func TestFrames(t *testing.T) {
	c := frame.New()
	a, b, most := of(5), frame.Frame{Head: head.Head{Version: 2, Kind: 5, Seq: math.MaxUint32, Index: 254, Count: 255}, Payload: []byte{0, 6}}, of(row(242)...)
	spoiled := segmentOf(b)
	spoiled[len(spoiled)-1] ^= 1
	wrong := sealed(headOf(head.Head{Version: 2, Kind: 6, Index: 1, Count: 1}), []byte{5})
	for i, x := range []struct {
		b    []byte
		want []told
	}{
		{nil, nil}, {[]byte{}, nil}, {[]byte{0}, nil}, {make([]byte, 300), nil}, {[]byte{5, 6}, nil}, {segmentOf(a), nil},
		{append([]byte{0}, segmentOf(a)...), nil},
		{append(segmentOf(a), 0), []told{{a, api.OK}}},
		{wireOf(a), []told{{a, api.OK}}},
		{wireOf(a, b, most, a), []told{{a, api.OK}, {b, api.OK}, {most, api.OK}, {a, api.OK}}},
		{slices.Concat(segmentOf(a), []byte{0}, segmentOf(b), []byte{0}), []told{{a, api.OK}, {b, api.OK}}}, // one nought between
		{slices.Concat(wireOf(a), make([]byte, 9), wireOf(b)), []told{{a, api.OK}, {b, api.OK}}},
		{slices.Concat(wireOf(a), []byte{9, 0, 3, 4}), []told{{a, api.OK}, {frame.Frame{}, api.ErrStuff}}},
		{slices.Concat(wireOf(a), segmentOf(b)), []told{{a, api.OK}}},
		{slices.Concat(wireOf(a), segmentOf(b)[:8], wireOf(most)), []told{{a, api.OK}, {frame.Frame{}, api.ErrStuff}, {most, api.OK}}}, // cut within a block of the stuffing, and behind it
		{slices.Concat(wireOf(a), segmentOf(b)[:9], wireOf(most)), []told{{a, api.OK}, {frame.Frame{}, api.ErrShort}, {most, api.OK}}},
		{slices.Concat([]byte{1}, wireOf(a), []byte{1, 1, 1}, wireOf(b)), []told{{frame.Frame{}, api.ErrShort}, {a, api.OK}, {frame.Frame{}, api.ErrShort}, {b, api.OK}}},
		{slices.Concat(wireOf(a), spoiled, wireOf(b), wrong, []byte{0}), []told{{a, api.OK}, {frame.Frame{}, api.ErrSum}, {b, api.OK}, {frame.Frame{}, api.ErrKind}}},
		{slices.Concat(row(256), wireOf(a), row(5000), []byte{0}, wireOf(b), row(5000)), []told{{frame.Frame{}, api.ErrLong}, {a, api.OK}, {frame.Frame{}, api.ErrLong}, {b, api.OK}}},
		{slices.Concat(segmentOf(most), wireOf(a)), []told{{most, api.OK}, {a, api.OK}}},
		{slices.Concat([]byte{7}, segmentOf(most), wireOf(a)), []told{{frame.Frame{}, api.ErrLong}, {a, api.OK}}},
	} {
		if got := given(c, x.b); !sameTold(got, x.want) {
			t.Errorf("%d: %s, not %s", i, shown(got), shown(x.want))
		}
	}
	var l []frame.Frame
	var want []told
	for i, p := range payloads() {
		f := frame.Frame{Head: heads()[i%len(heads())], Payload: p}
		l, want = append(l, f), append(want, told{f, api.OK})
	}
	if packed, e := c.Pack(l...); e != api.OK || !sameTold(given(c, packed), want) {
		t.Errorf("%d frames, packed: %d", len(l), e)
	}
}

// P8.2: what Frames gives is never nil, is given anew each time, and a loop may end at any.
func TestFramesIsRangedOver(t *testing.T) {
	c := frame.New()
	var nobody *frame.Codec
	if c.Frames(nil) == nil || c.Frames([]byte{5}) == nil || nobody.Frames(nil) == nil || nobody.Frames(wireOf(of(5))) == nil {
		t.Fatal("Frames is nil")
	}
	b := slices.Concat(wireOf(of(1)), []byte{9, 0}, wireOf(of(2)), []byte{1, 0}, wireOf(of(3), of(4)), []byte{6})
	want := []told{{of(1), api.OK}, {frame.Frame{}, api.ErrStuff}, {of(2), api.OK}, {frame.Frame{}, api.ErrShort}, {of(3), api.OK}, {of(4), api.OK}}
	seq := c.Frames(b)
	for _, most := range []int{1, 2, 3, 4, 5, 6, 1, 6} {
		var got []told
		for f, e := range seq {
			got = append(got, told{f, e})
			if len(got) == most {
				break
			}
		}
		if !sameTold(got, want[:most]) {
			t.Errorf("the first %d: %s", most, shown(got))
		}
	}
	asked := 0
	seq(func(frame.Frame, api.Errno) bool { // a loop that has ended is asked nothing more
		asked++
		return asked < 3
	})
	if asked != 3 {
		t.Errorf("asked %d times", asked)
	}
	outer := 0
	for f, e := range seq {
		if !sameTold([]told{{f, e}}, want[outer:outer+1]) {
			t.Errorf("%d, with a loop in the loop: %v, %d", outer, f, e)
		}
		outer++
		var inner []told
		for f, e := range seq {
			inner = append(inner, told{f, e})
		}
		if !sameTold(inner, want) {
			t.Errorf("a loop in the loop: %s", shown(inner))
		}
	}
	if outer != len(want) {
		t.Errorf("%d, with a loop in the loop", outer)
	}
}

// P8.3: how many bytes a frame has on the wire.
func TestWire(t *testing.T) {
	for n := -300; n <= 1000; n++ {
		want := 0
		if n >= 1 && n <= 242 {
			want = n + 15
		}
		if got := frame.Wire(n); got != want {
			t.Errorf("Wire(%d): %d, not %d", n, got, want)
		}
	}
	for _, n := range []int{0, -1, -15, -16, 243, 254, 256, 257, 1 << 16, 1<<32 + 1, 1<<32 + 100, -1<<32 + 1, math.MinInt, math.MinInt + 1, math.MaxInt - 14, math.MaxInt} {
		if got := frame.Wire(n); got != 0 {
			t.Errorf("Wire(%d): %d", n, got)
		}
	}
	c := frame.New()
	for n := 1; n <= 242; n++ {
		for _, b := range [][]byte{row(n), make([]byte, n)} {
			if packed, e := c.Pack(of(b...)); e != api.OK || frame.Wire(n) != len(packed) {
				t.Errorf("Wire(%d): %d, not %d", n, frame.Wire(n), len(packed))
			}
		}
	}
}

// P8.3: the greatest payload of so many bytes on the wire.
func TestRoom(t *testing.T) {
	for _, x := range [][2]int{
		{0, 0}, {1, 0}, {14, 0}, {15, 0}, {16, 1}, {17, 2}, {31, 16}, {255, 240}, {256, 241}, {257, 242}, {258, 242}, {259, 242}, {1000, 242}, {1 << 16, 242}, {1<<32 + 1, 242}, {math.MaxInt - 1, 242}, {math.MaxInt, 242},
		{-1, 0}, {-15, 0}, {-16, 0}, {-257, 0}, {-1 << 32, 0}, {-1<<32 + 20, 0}, {math.MinInt, 0}, {math.MinInt + 1, 0}, {math.MinInt + 14, 0}, {math.MinInt + 15, 0}, {math.MinInt + 300, 0},
	} {
		if got := frame.Room(x[0]); got != x[1] {
			t.Errorf("Room(%d): %d, not %d", x[0], got, x[1])
		}
	}
	for mtu := -300; mtu <= 600; mtu++ { // the greatest of which Wire tells no more
		want := 0
		for n := 1; n <= 242; n++ {
			if frame.Wire(n) <= mtu {
				want = n
			}
		}
		if got := frame.Room(mtu); got != want {
			t.Errorf("Room(%d): %d, not %d", mtu, got, want)
		}
	}
}

// P8.3: whether frames are the same, also frames that may not be.
func TestSame(t *testing.T) {
	h := head.Head{Version: 2, Kind: 4, Seq: 77, Index: 1, Count: 3}
	all := []frame.Frame{{}, {Head: h}, {Head: h, Payload: []byte{0}}, {Head: h, Payload: []byte{5}}, {Head: h, Payload: []byte{5, 0}}, {Head: h, Payload: []byte{0, 5}}, {Head: h, Payload: []byte{5, 6}}, {Head: h, Payload: row(243)}, {Payload: []byte{5}}}
	for _, x := range []head.Head{
		{Version: 1, Kind: 4, Seq: 77, Index: 1, Count: 3}, {Version: 2, Kind: 5, Seq: 77, Index: 1, Count: 3}, {Version: 2, Kind: 4, Seq: 78, Index: 1, Count: 3},
		{Version: 2, Kind: 4, Seq: 77, Index: 2, Count: 3}, {Version: 2, Kind: 4, Seq: 77, Index: 1, Count: 4}, {Version: -2, Kind: 400, Seq: 77, Index: -1, Count: 0},
	} {
		all = append(all, frame.Frame{Head: x, Payload: []byte{5}})
	}
	for i, a := range all {
		for k, b := range all {
			b.Payload = slices.Clone(b.Payload)
			if frame.Same(a, b) != (i == k) {
				t.Errorf("Same of %v and %v: %t", a, b, i != k)
			}
		}
	}
	if !frame.Same(frame.Frame{Head: h}, frame.Frame{Head: h, Payload: []byte{}}) || !frame.Same(frame.Frame{Head: h, Payload: []byte{}}, frame.Frame{Head: h}) {
		t.Error("nil and empty payloads aren't the same")
	}
}

// P8.3: lines, also of frames that may not be.
func TestLine(t *testing.T) {
	for _, x := range []struct {
		h    head.Head
		n    int
		line string
	}{
		{head.Head{Version: 1, Kind: 2, Seq: 7, Index: 1, Count: 2}, 2, "v 1 k 2 7 1/2 2"},
		{head.Head{Version: 2, Kind: 4, Seq: 77, Index: 0, Count: 3}, 1, "v 2 k 4 77 0/3 1"},
		{head.Head{Version: 2, Kind: 5, Seq: math.MaxUint32, Index: 254, Count: 255}, 242, "v 2 k 5 4294967295 254/255 242"},
		{head.Head{}, 0, "v 0 k 0 0 0/0 0"},
		{head.Head{Version: -1, Kind: 10, Seq: 1, Index: -3, Count: 1000}, 1000, "v -1 k 10 1 -3/1000 1000"},
	} {
		for _, b := range [][]byte{row(x.n), make([]byte, x.n)} {
			if l := frame.Line(frame.Frame{Head: x.h, Payload: b}); l != x.line {
				t.Errorf("Line: %s, not %s", l, x.line)
			}
		}
	}
}

// P8.4: a nil codec, in each call, ahead of all else.
func TestNil(t *testing.T) {
	if frame.New() == nil {
		t.Fatal("New: nil")
	}
	var nobody *frame.Codec
	for _, f := range []frame.Frame{of(5), of(), of(row(243)...), {}, {Head: head.Head{Version: 1, Kind: 9}}} {
		refused(t, nobody, f, api.ErrArg)
		if b, e := nobody.Pack(of(5), f); len(b) > 0 || e != api.ErrArg {
			t.Errorf("Pack: %v, %d", b, e)
		}
	}
	if b, e := nobody.Pack(); len(b) > 0 || e != api.ErrArg {
		t.Errorf("Pack of no frames: %v, %d", b, e)
	}
	for _, s := range [][]byte{nil, {}, {0}, {1}, row(256), segmentOf(of(5)), sealed(headOf(head.Head{}), []byte{5}), stuffedOf(row(13))} {
		none(t, nobody, s, api.ErrArg)
	}
	for _, b := range [][]byte{nil, {0}, wireOf(of(5)), {9, 0}, row(300)} {
		if got := given(nobody, b); got != nil {
			t.Errorf("Frames gives %s", shown(got))
		}
	}
}

// P8.4: codecs are alike, one may be shared, and no call is told by what came ahead of it.
func TestCodecs(t *testing.T) {
	c, d := frame.New(), frame.New()
	f := of(5, 0, 6)
	s := segmentOf(f)
	for range 3 {
		taken(t, c, f, s)
		taken(t, d, f, s)
		refused(t, c, of(), api.ErrShort)
		none(t, c, []byte{1}, api.ErrShort)
		none(t, c, s[:len(s)-1], api.ErrStuff)
		for range c.Frames(wireOf(f, f)) {
			taken(t, c, of(9), segmentOf(of(9)))
			break
		}
	}
}

// spoil: puts other bytes over a list, its spare room and behind it.
func spoil(b []byte) {
	for i := range b[:cap(b)] {
		b[:cap(b)][i] = 99
	}
	_ = append(b, 99, 99, 99)
}

// The rules on memory: what is handed in is neither kept nor changed, its spare room neither.
func TestHandedInIsLeft(t *testing.T) {
	c := frame.New()
	room := append(row(20), 1, 2, 3, 4, 5, 6, 7, 8)
	was := slices.Clone(room)
	l := []frame.Frame{of(room[:3]...), of(room[:20]...), of(room[5:9]...), of()}
	c.Check(l[1])
	c.Segment(l[1])
	c.Pack(l[:3]...)
	c.Pack(l...)
	frame.Line(l[0])
	frame.Same(l[0], l[1])
	c.Unpack(room)
	if !bytes.Equal(room, was) || !bytes.Equal(l[1].Payload, was[:20]) || l[3].Payload != nil {
		t.Errorf("changed to %v", room)
	}
	wire := append(wireOf(of(1, 2), of(3)), 7, 7, 7)
	wireWas := slices.Clone(wire)
	end := len(wire) - 3
	seq := c.Frames(wire[:end])
	for range seq {
	}
	one, e := c.Unpack(wire[1:16])
	if !bytes.Equal(wire, wireWas) || e != api.OK {
		t.Errorf("changed to %v; %d", wire, e)
	}
	packed, _ := c.Pack(l[:2]...)
	segment, _ := c.Segment(l[0])
	clear(room)
	clear(wire)
	if !same(one, of(1, 2)) || !bytes.Equal(packed, wireOf(of(was[:3]...), of(was[:20]...))) || !bytes.Equal(segment, segmentOf(of(was[:3]...))) {
		t.Error("answers hang on what was handed in")
	}
	var got []told
	for f, e := range seq {
		got = append(got, told{f, e})
	}
	if !sameTold(got, []told{{of(1, 2), api.OK}, {of(3), api.OK}}) {
		t.Errorf("Frames of bytes that were changed behind the call: %s", shown(got))
	}
}

// The rules on memory: answers are new, and share none with one another, also those that are given while their bytes are changed.
func TestAnswersAreNew(t *testing.T) {
	c := frame.New()
	f := of(5, 0, 6)
	s := segmentOf(f)
	first, _ := c.Unpack(s)
	second, _ := c.Unpack(s)
	spoil(first.Payload)
	if !same(second, f) || !bytes.Equal(s, segmentOf(f)) {
		t.Errorf("answers of Unpack share memory: %v", second)
	}
	a, _ := c.Segment(f)
	b, _ := c.Segment(f)
	p, _ := c.Pack(f)
	q, _ := c.Pack(f)
	spoil(a)
	spoil(p)
	if !bytes.Equal(b, s) || !bytes.Equal(q, wireOf(f)) || !same(f, of(5, 0, 6)) {
		t.Errorf("answers share memory: %v, %v", b, q)
	}
	wire := wireOf(of(1), of(2), of(3))
	seq := c.Frames(wire)
	for range 2 {
		n := byte(0)
		for f, e := range seq {
			n++
			if e != api.OK || !same(f, of(n)) {
				t.Errorf("%d: %v, %d", n, f, e)
			}
			spoil(f.Payload)
			clear(wire)
		}
		if n != 3 {
			t.Errorf("%d frames", n)
		}
	}
}
