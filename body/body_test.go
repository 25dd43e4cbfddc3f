package body_test

import (
	"bytes"
	"encoding/binary"
	"fmt"
	"iter"
	"math"
	"math/rand"
	"slices"
	"strings"
	"testing"

	"cuneiform/api"
	"cuneiform/body"
	"cuneiform/msg"
)

// number: a field that is a number, as the words of chapter 16 have it.
type number struct {
	name        string
	least, most int
	since       int
	absent      int // in version 1, where it is since version 2
	signed      bool
}

// part: what Parts gives at once.
type part struct {
	name  string
	bytes string
}

// token: a number's bytes within a body, or those of a text behind how many they are.
type token struct {
	bytes       []byte
	text        bool
	least, most int64     // what the number may be, where it stands
	signed      bool      // it is one's Zig
	few, many   api.Errno // what is told of one below the least, or above the most
}

// kinds: all there are.
var kinds = []int{1, 2, 3, 4, 5}

// versions: all there are.
var versions = []int{1, 2}

// numbers: a kind's, in order, each written out.
func numbers(kind int) []number {
	robot := number{"robot", 0, 65535, 1, 0, false}
	return map[int][]number{
		1: {robot, {"speed", 1, 5000, 1, 0, false}, {"accel", 1, 10000, 2, 500, false}},
		2: {robot, {"reason", 0, 15, 1, 0, false}, {"zone", 0, 4095, 2, 0, false}},
		3: {robot, {"zone", 0, 4095, 1, 0, false}, {"lease", 1, 255, 2, 1, false}},
		4: {
			robot, {"x", -1000000, 1000000, 1, 0, true}, {"y", -1000000, 1000000, 1, 0, true},
			{"heading", 0, 35999, 1, 0, false}, {"battery", 0, 1000, 1, 0, false}, {"sure", 0, 100, 2, 100, false},
		},
		5: {
			robot, {"code", 1, 9999, 1, 0, false}, {"severity", 0, 4, 1, 0, false},
			{"part", 0, 255, 2, 0, false}, {"times", 1, 1000000, 2, 1, false},
		},
	}[kind]
}

// What a kind has beside its numbers, in a version.
func hasPath(kind int) bool         { return kind == 1 }
func hasCells(kind int) bool        { return kind == 3 }
func hasText(kind int) bool         { return kind == 5 }
func hasTag(kind, version int) bool { return kind == 1 && version == 2 }

// sample: a right message of each kind, which has no field that is as it is in version 1.
func sample(kind int) msg.Msg {
	return map[int]msg.Msg{
		1: {Kind: 1, N: [6]int{7, 100, 300}, Path: []msg.Point{{X: 1, Y: -2}, {X: 1000000, Y: -1000000}, {X: 0, Y: 5}}, Tag: "a b"},
		2: {Kind: 2, N: [6]int{300, 2, 9}},
		3: {Kind: 3, N: [6]int{8, 12, 30}, Cells: []int{0, 5, 6, 65535}},
		4: {Kind: 4, N: [6]int{9, -5, 6, 18000, 900, 55}},
		5: {Kind: 5, N: [6]int{10, 404, 3, 17, 22}, Text: "lost ~ way"},
	}[kind]
}

// ends: a right message whose numbers are the least, or the greatest, and that has the least, or the most, of all else.
func ends(kind int, most bool) msg.Msg {
	m := msg.Msg{Kind: kind}
	size := func(least, greatest int) int {
		if most {
			return greatest
		}
		return least
	}
	for i, n := range numbers(kind) {
		m.N[i] = size(n.least, n.most)
	}
	if hasPath(kind) {
		m.Path = slices.Repeat([]msg.Point{{X: size(-1000000, 1000000), Y: size(-1000000, 1000000)}}, size(1, 16))
		m.Tag = strings.Repeat("~", size(0, 16))
	}
	if hasCells(kind) {
		m.Cells = rising(size(1, 32))
	}
	if hasText(kind) {
		m.Text = strings.Repeat(" ", size(0, 64))
	}
	return m
}

// rising: so many cells, each further from the one ahead; up to 32 of them may be.
func rising(n int) []int {
	l := []int{}
	for i := range n {
		l = append(l, i*i*64)
	}
	return l
}

// apart: a message whose points are as far apart as may be, which has the longest body.
func apart() msg.Msg {
	m := ends(1, true)
	for i := range m.Path {
		m.Path[i] = msg.Point{X: 1000000 - 2000000*(i%2), Y: -1000000 + 2000000*(i%2)}
	}
	return m
}

// right: messages that have a body.
func right() []msg.Msg {
	out := []msg.Msg{apart()}
	for _, k := range kinds {
		out = append(out, sample(k), ends(k, false), ends(k, true), msg.New(k))
	}
	return out
}

// with: a message, changed; the one that is handed in stays.
func with(m msg.Msg, changes ...func(m *msg.Msg)) msg.Msg {
	m.Path, m.Cells = slices.Clone(m.Path), slices.Clone(m.Cells)
	for _, change := range changes {
		change(&m)
	}
	return m
}

// told: a message as a text, so that two texts are one just where the messages are; nil and empty lists are one in it.
func told(m msg.Msg) string {
	return fmt.Sprintf("%d %v %d%v %d%v %q %q", m.Kind, m.N, len(m.Path), m.Path, len(m.Cells), m.Cells, m.Text, m.Tag)
}

// wrongKinds: numbers that are no kind's: next to those, far off, and some that are within but for what a byte or 32 bits can't hold.
func wrongKinds() []int {
	return []int{
		0, 6, 7, -1, -2, -5, 100, 255, 256, 257, 261, -255, -251, 1<<31 - 1, 1 << 31, 1<<32 + 1, 1<<32 + 5, -1<<32 + 1,
		math.MinInt, math.MinInt + 1, math.MinInt + 5, math.MaxInt - 1, math.MaxInt,
	}
}

// wrongVersions: numbers that are no version's, so.
func wrongVersions() []int {
	return []int{
		0, 3, 4, -1, -2, 255, 256, 257, 258, -254, -255, 1<<31 - 1, 1<<31 + 1, 1<<32 + 1, 1<<32 + 2, -1<<32 + 1, -1<<32 + 2,
		math.MinInt, math.MinInt + 1, math.MinInt + 2, math.MaxInt - 1, math.MaxInt,
	}
}

// row: a right message's body in a version, by the words: its fields, each with its bytes.
func row(m msg.Msg, version int) []part {
	var out []part
	put := func(name string, b []byte) { out = append(out, part{name, string(b)}) }
	for i, n := range numbers(m.Kind) {
		switch {
		case n.since > version:
		case n.signed:
			put(n.name, binary.AppendVarint(nil, int64(m.N[i])))
		default:
			put(n.name, binary.AppendUvarint(nil, uint64(m.N[i])))
		}
	}
	if hasPath(m.Kind) {
		b := binary.AppendUvarint(nil, uint64(len(m.Path)))
		for i, p := range m.Path {
			if i > 0 {
				p.X, p.Y = p.X-m.Path[i-1].X, p.Y-m.Path[i-1].Y
			}
			b = binary.AppendVarint(binary.AppendVarint(b, int64(p.X)), int64(p.Y))
		}
		put("path", b)
	}
	if hasCells(m.Kind) {
		b := binary.AppendUvarint(nil, uint64(len(m.Cells)))
		for i, c := range m.Cells {
			if i > 0 {
				c -= m.Cells[i-1] + 1
			}
			b = binary.AppendUvarint(b, uint64(c))
		}
		put("cells", b)
	}
	if hasText(m.Kind) {
		put("text", append([]byte{byte(len(m.Text))}, m.Text...))
	}
	if hasTag(m.Kind, version) {
		put("tag", append([]byte{byte(len(m.Tag))}, m.Tag...))
	}
	return out
}

// whole: the bytes of all parts.
func whole(l []part) []byte {
	var out []byte
	for _, p := range l {
		out = append(out, p.bytes...)
	}
	return out
}

// projected: a right message as a version tells it, by the words.
func projected(m msg.Msg, version int) msg.Msg {
	return with(m, func(m *msg.Msg) {
		for i, n := range numbers(m.Kind) {
			if n.since > version {
				m.N[i] = n.absent
			}
		}
		if !hasTag(m.Kind, version) {
			m.Tag = ""
		}
	})
}

// first: the number that bytes begin with, and how many it has, by the words of chapter 1.
func first(b []byte) (uint64, int, api.Errno) {
	size := 1 + slices.IndexFunc(b, func(c byte) bool { return c < 128 })
	switch {
	case size == 0 && len(b) < 10:
		return 0, 0, api.ErrEnd
	case size == 0 || size > 10:
		return 0, 0, api.ErrForm
	}
	n, _ := binary.Uvarint(b[:size]) // 0 of one that is too great
	if !bytes.Equal(binary.AppendUvarint(nil, n), b[:size]) {
		return 0, 0, api.ErrForm
	}
	return n, size, api.OK
}

// reading: bytes that are read by the words, up to the first that is wrong.
type reading struct {
	left []byte
	e    api.Errno
}

// fail: that something is wrong, if nothing ahead of it is.
func (r *reading) fail(is bool, e api.Errno) {
	if is && r.e == api.OK {
		r.e = e
	}
}

// number: the next number; 0, if something is wrong.
func (r *reading) number() uint64 {
	if r.e != api.OK {
		return 0
	}
	n, size, e := first(r.left)
	r.left, r.e = r.left[size:], e
	return n
}

// plain: the next number, if it is between two, which are far from where sums of 64 bits go round.
func (r *reading) plain(least, most int) int {
	n := r.number()
	r.fail(n > math.MaxInt32 || int(n) < least || int(n) > most, api.ErrRange)
	return int(n)
}

// signed: the next signed one behind another, if it's between two with this.
func (r *reading) signed(from, least, most int) int {
	zig := r.number()
	n := from + int(zig/2)
	if zig%2 == 1 {
		n = from - int(zig/2) - 1
	}
	r.fail(zig > math.MaxInt32 || n < least || n > most, api.ErrRange)
	return n
}

// size: how many points or cells there are.
func (r *reading) size(most int) int {
	n := r.number()
	r.fail(n == 0, api.ErrShort)
	r.fail(n > uint64(most), api.ErrMany)
	return int(n)
}

// text: the next text.
func (r *reading) text(most int) string {
	n := r.number()
	r.fail(n > uint64(most), api.ErrMany)
	r.fail(n > uint64(len(r.left)), api.ErrEnd)
	if r.e != api.OK {
		return ""
	}
	s := string(r.left[:n])
	r.left = r.left[n:]
	r.fail(strings.ContainsFunc(s, func(c rune) bool { return c < 32 || c > 126 }), api.ErrText)
	return s
}

// meant: the message of a body, by the words.
func meant(kind, version int, b []byte) (msg.Msg, api.Errno) {
	if version != 1 && version != 2 {
		return msg.Msg{}, api.ErrVersion
	}
	if kind < 1 || kind > 5 {
		return msg.Msg{}, api.ErrKind
	}
	m, r := msg.Msg{Kind: kind}, &reading{left: b}
	for i, n := range numbers(kind) {
		switch {
		case n.since > version:
			m.N[i] = n.absent
		case n.signed:
			m.N[i] = r.signed(0, n.least, n.most)
		default:
			m.N[i] = r.plain(n.least, n.most)
		}
	}
	if hasPath(kind) {
		var p msg.Point
		for n := r.size(16); n > 0 && r.e == api.OK; n-- {
			p.X = r.signed(p.X, -1000000, 1000000)
			p.Y = r.signed(p.Y, -1000000, 1000000)
			m.Path = append(m.Path, p)
		}
	}
	if hasCells(kind) {
		c := -1
		for n := r.size(32); n > 0 && r.e == api.OK; n-- {
			c += 1 + r.plain(0, 65535-c-1)
			m.Cells = append(m.Cells, c)
		}
	}
	if hasText(kind) {
		m.Text = r.text(64)
	}
	if hasTag(kind, version) {
		m.Tag = r.text(16)
	}
	r.fail(len(r.left) > 0, api.ErrForm)
	if r.e != api.OK {
		return msg.Msg{}, r.e
	}
	return m, api.OK
}

// encodes: that a right message's body in a version is just this, that Size and Parts tell so, and that it's decoded as its Project.
func encodes(t *testing.T, m msg.Msg, version int, want []byte) {
	t.Helper()
	before := told(m)
	b, e := body.Encode(m, version)
	if e != api.OK || !bytes.Equal(b, want) {
		t.Errorf("Encode(%s, %d): %v, %d, not %v", before, version, b, e, want)
	}
	if n := body.Size(m, version); n != len(want) {
		t.Errorf("Size(%s, %d): %d, not %d", before, version, n, len(want))
	}
	l := row(m, version)
	if got := upTo(body.Parts(m, version), -1); !slices.Equal(got, l) || !bytes.Equal(whole(got), want) {
		t.Errorf("Parts(%s, %d): %q, not %q", before, version, got, l)
	}
	d, e := body.Decode(m.Kind, version, want)
	if e != api.OK || told(d) != told(projected(m, version)) || !msg.Same(d, msg.Project(m, version)) {
		t.Errorf("Decode(%d, %d, %v): %s, %d, not the Project of %s", m.Kind, version, want, told(d), e, before)
	}
	if len(want) > 192 {
		t.Errorf("the body of %s has %d bytes", before, len(want))
	}
	if told(m) != before {
		t.Errorf("%s was left as %s", before, told(m))
	}
}

// inBoth: that a right message is encoded and decoded as the words have it, in both versions.
func inBoth(t *testing.T, m msg.Msg) {
	t.Helper()
	for _, v := range versions {
		encodes(t, m, v, whole(row(m, v)))
	}
}

// bare: that a message has no body in a version, for this reason.
func bare(t *testing.T, m msg.Msg, version int, want api.Errno) {
	t.Helper()
	before := told(m)
	if b, e := body.Encode(m, version); len(b) != 0 || e != want {
		t.Errorf("Encode(%s, %d): %v, %d, not %d", before, version, b, e, want)
	}
	if n := body.Size(m, version); n != 0 {
		t.Errorf("Size(%s, %d): %d", before, version, n)
	}
	s := body.Parts(m, version)
	if s == nil {
		t.Fatalf("Parts(%s, %d) is nil", before, version)
	}
	if l := upTo(s, -1); len(l) != 0 {
		t.Errorf("Parts(%s, %d): %q", before, version, l)
	}
	if told(m) != before {
		t.Errorf("%s was left as %s", before, told(m))
	}
}

// decodes: that bytes are decoded as the words have it, with this error; what has none is encoded to just these bytes.
func decodes(t *testing.T, kind, version int, b []byte, want api.Errno) {
	t.Helper()
	before := slices.Clone(b)
	m, e := body.Decode(kind, version, b)
	if e != want {
		t.Errorf("Decode(%d, %d, %v): %d, not %d", kind, version, before, e, want)
	}
	right, by := meant(kind, version, before)
	if by != want {
		t.Errorf("by the words of %d in %d %v: %d, not %d", kind, version, before, by, want)
	}
	if told(m) != told(right) {
		t.Errorf("Decode(%d, %d, %v): %s, not %s", kind, version, before, told(m), told(right))
	}
	if e == api.OK {
		if again, e := body.Encode(m, version); e != api.OK || !bytes.Equal(again, before) {
			t.Errorf("%v, decoded and encoded: %v, %d", before, again, e)
		}
	}
	if !bytes.Equal(b, before) {
		t.Errorf("Decode(%d, %d, %v) left %v", kind, version, before, b)
	}
}

// upTo: what a ranging gives, up to most of them.
func upTo(s iter.Seq2[string, []byte], most int) []part {
	var out []part
	for name, b := range s {
		if out = append(out, part{name, string(b)}); len(out) == most {
			break
		}
	}
	return out
}

// tokens: a right message's body in a version, cut into its numbers and texts.
func tokens(m msg.Msg, version int) []token {
	var out []token
	plain := func(n, least, most int, few, many api.Errno) {
		out = append(out, token{bytes: binary.AppendUvarint(nil, uint64(n)), least: int64(least), most: int64(most), few: few, many: many})
	}
	signed := func(n, least, most int) {
		out = append(out, token{bytes: binary.AppendVarint(nil, int64(n)), least: int64(least), most: int64(most), signed: true, few: api.ErrRange, many: api.ErrRange})
	}
	text := func(s string, most int) {
		plain(len(s), 0, most, api.OK, api.ErrMany)
		out = append(out, token{bytes: []byte(s), text: true})
	}
	for i, n := range numbers(m.Kind) {
		switch {
		case n.since > version:
		case n.signed:
			signed(m.N[i], n.least, n.most)
		default:
			plain(m.N[i], n.least, n.most, api.ErrRange, api.ErrRange)
		}
	}
	if hasPath(m.Kind) {
		plain(len(m.Path), 1, 16, api.ErrShort, api.ErrMany)
		var ahead msg.Point
		for _, p := range m.Path {
			signed(p.X-ahead.X, -1000000-ahead.X, 1000000-ahead.X)
			signed(p.Y-ahead.Y, -1000000-ahead.Y, 1000000-ahead.Y)
			ahead = p
		}
	}
	if hasCells(m.Kind) {
		plain(len(m.Cells), 1, 32, api.ErrShort, api.ErrMany)
		ahead := -1
		for _, c := range m.Cells {
			plain(c-ahead-1, 0, 65535-ahead-1, api.OK, api.ErrRange)
			ahead = c
		}
	}
	if hasText(m.Kind) {
		text(m.Text, 64)
	}
	if hasTag(m.Kind, version) {
		text(m.Tag, 16)
	}
	return out
}

// joined: tokens' bytes, those at i replaced.
func joined(l []token, i int, b []byte) []byte {
	var out []byte
	for j, x := range l {
		if j == i {
			out = append(out, b...)
		} else {
			out = append(out, x.bytes...)
		}
	}
	return out
}

// behind: tokens' bytes up to those at i, and others behind them.
func behind(l []token, i int, b string) []byte {
	return append(joined(l[:i], -1, nil), b...)
}

// beyond: bytes of numbers that may not be where a token stands, each with its error; some of them would be, if sums went round or bits were lost.
func beyond(x token) map[string]api.Errno {
	out := map[string]api.Errno{}
	put := func(n int64) {
		e := x.many
		if n < x.least {
			e = x.few
		}
		if x.signed {
			out[string(binary.AppendVarint(nil, n))] = e
		} else if n >= 0 {
			out[string(binary.AppendUvarint(nil, uint64(n)))] = e
		}
	}
	for _, n := range []int64{x.least - 1, x.least - 2, x.most + 1, x.most + 2, x.most + 1<<32, x.least - 1<<32, x.most + 1<<40, math.MinInt64, math.MinInt64 + 1, math.MinInt64 + 1000000, math.MaxInt64, math.MaxInt64 - 1, math.MaxInt64 - 1000000, 1<<31 + 1<<20, 1 << 31, 1 << 32, 1 << 33, 1<<32 + 1, -1 << 32, 1 << 62} {
		if n < x.least || n > x.most {
			put(n)
		}
	}
	if !x.signed {
		for _, n := range []uint64{1 << 63, 1<<63 + 1, 1<<63 + 5, 1<<64 - 2, 1<<64 - 1, 1<<64 - 65536} {
			out[string(binary.AppendUvarint(nil, n))] = x.many
		}
	}
	return out
}

// formless: bytes that no number has, whatever is behind them; some of them would be of numbers that may not be.
func formless() []string {
	full := strings.Repeat("\xff", 9)
	return []string{
		"\x80\x00", "\x81\x00", "\xff\x00", "\x80\x80\x00", "\xff\xff\xff\xff\x00", strings.Repeat("\x80", 9) + "\x00",
		full + "\x00", full + "\x02", full + "\x7f", strings.Repeat("\x80", 9) + "\x02",
		strings.Repeat("\x80", 10), full + "\xff", full + "\x80", full + "\xff\x01", full + "\xff\xff\x00",
	}
}

// endless: bytes that no number has, as long as nothing is behind them.
func endless() []string {
	return []string{"", "\x80", "\xff", "\x80\x80", strings.Repeat("\x80", 9), strings.Repeat("\xff", 9)}
}

// P18.1: the bodies of messages, each written out.
func TestExamples(t *testing.T) {
	hold := msg.Msg{Kind: 2, N: [6]int{300, 2, 9}}
	encodes(t, hold, 1, []byte{172, 2, 2})
	encodes(t, hold, 2, []byte{172, 2, 2, 9})
	move := sample(1)
	path := "\x03\x02\x03\xfe\x88\x7a\xfb\x88\x7a\xff\x88\x7a\x8a\x89\x7a"
	encodes(t, move, 1, []byte("\x07\x64"+path))
	encodes(t, move, 2, []byte("\x07\x64\xac\x02"+path+"\x03a b"))
	grant := sample(3)
	encodes(t, grant, 1, []byte("\x08\x0c\x04\x00\x04\x00\xf8\xff\x03"))
	encodes(t, grant, 2, []byte("\x08\x0c\x1e\x04\x00\x04\x00\xf8\xff\x03"))
	pose := sample(4)
	encodes(t, pose, 1, []byte("\x09\x09\x0c\xd0\x8c\x01\x84\x07"))
	encodes(t, pose, 2, []byte("\x09\x09\x0c\xd0\x8c\x01\x84\x07\x37"))
	fault := sample(5)
	encodes(t, fault, 1, []byte("\x0a\x94\x03\x03\x0alost ~ way"))
	encodes(t, fault, 2, []byte("\x0a\x94\x03\x03\x11\x16\x0alost ~ way"))
}

// P18.1, P18.2: right messages of each kind, in both versions; also with empty lists in the place of none.
func TestRight(t *testing.T) {
	for _, m := range right() {
		inBoth(t, m)
		inBoth(t, with(m, func(m *msg.Msg) {
			if len(m.Path) == 0 {
				m.Path = []msg.Point{}
			}
			if len(m.Cells) == 0 {
				m.Cells = []int{}
			}
		}))
	}
}

// P18.1, P18.2: each number at its bounds, and next to them, and where its bytes become more.
func TestNumbers(t *testing.T) {
	for _, k := range kinds {
		for i, n := range numbers(k) {
			for _, v := range []int{n.least, n.least + 1, n.most - 1, n.most, 1, 63, 64, 127, 128, 8191, 8192, 16383, 16384, -1, -64, -65, -8192, -8193} {
				if v >= n.least && v <= n.most {
					inBoth(t, with(sample(k), func(m *msg.Msg) { m.N[i] = v }))
				}
			}
		}
	}
}

// P18.1, P18.2: paths of 1 to 16 points, at their bounds, as far apart as may be, one on the other.
func TestPaths(t *testing.T) {
	of := func(l ...msg.Point) { inBoth(t, with(sample(1), func(m *msg.Msg) { m.Path = l })) }
	for _, x := range []int{-1000000, -999999, -1, 0, 1, 999999, 1000000} {
		for _, y := range []int{-1000000, -64, 0, 63, 64, 1000000} {
			of(msg.Point{X: x, Y: y})
			of(msg.Point{X: x, Y: y}, msg.Point{X: x, Y: y})
			of(msg.Point{X: x, Y: y}, msg.Point{X: -x, Y: -y}, msg.Point{X: x, Y: y})
			of(msg.Point{X: x, Y: y}, msg.Point{X: -1000000, Y: 1000000})
			of(msg.Point{X: x, Y: y}, msg.Point{X: 1000000, Y: -1000000})
			of(msg.Point{}, msg.Point{X: x, Y: y}, msg.Point{X: y, Y: x})
		}
	}
	for n := 1; n <= 16; n++ {
		of(make([]msg.Point, n)...)
		of(apart().Path[:n]...)
	}
	encodes(t, msg.Msg{Kind: 1, N: [6]int{1, 1, 1}, Path: []msg.Point{{X: 1000000, Y: -1000000}, {X: -1000000, Y: 1000000}}}, 1, []byte("\x01\x01\x02\x80\x89\x7a\xff\x88\x7a\xff\x91\xf4\x01\x80\x92\xf4\x01"))
	encodes(t, apart(), 2, whole(row(apart(), 2)))
	if n := body.Size(apart(), 2); n != 151 { // 3, 2 and 2 of numbers, 1, 6 and 15 times 8 of the path, 17 of the tag
		t.Error("the longest body has", n)
	}
}

// P18.1, P18.2: cells of 1 to 32, one just behind the other and far apart, with the least and the greatest.
func TestCells(t *testing.T) {
	of := func(l ...int) { inBoth(t, with(sample(3), func(m *msg.Msg) { m.Cells = l })) }
	for _, c := range []int{0, 1, 127, 128, 16383, 16384, 65534, 65535} {
		of(c)
		if c > 0 {
			of(0, c)
			of(c-1, c)
		}
		if c < 65535 {
			of(c, 65535)
			of(c, c+1)
		}
	}
	for _, apart := range []int{1, 2, 128, 129, 2047, 2048} {
		for n := 1; n <= 32; n++ {
			for _, begin := range []int{0, 7, 65535 - (n-1)*apart} {
				l := []int{}
				for i := range n {
					l = append(l, begin+i*apart)
				}
				if last := l[n-1]; last <= 65535 {
					of(l...)
				}
			}
		}
	}
	encodes(t, msg.Msg{Kind: 3, N: [6]int{1, 2, 3}, Cells: []int{65533, 65534, 65535}}, 1, []byte("\x01\x02\x03\xfd\xff\x03\x00\x00"))
}

// P18.1, P18.2: a text of 0 to 64 bytes and a tag of 0 to 16, of each byte that may be.
func TestTexts(t *testing.T) {
	for n := range 65 {
		for _, b := range []string{" ", "~", "a"} {
			inBoth(t, with(sample(5), func(m *msg.Msg) { m.Text = strings.Repeat(b, n) }))
			inBoth(t, with(sample(1), func(m *msg.Msg) { m.Tag = strings.Repeat(b, min(n, 16)) }))
		}
	}
	for b := 32; b <= 126; b++ {
		s := string(rune(b))
		inBoth(t, with(sample(5), func(m *msg.Msg) { m.Text = s + "mid" + s }))
		inBoth(t, with(sample(1), func(m *msg.Msg) { m.Tag = s + "mid" + s }))
	}
}

// refused: wrong messages, each with its error.
func refused() []struct {
	m msg.Msg
	e api.Errno
} {
	type row = struct {
		m msg.Msg
		e api.Errno
	}
	var out []row
	add := func(e api.Errno, kind int, changes ...func(m *msg.Msg)) {
		out = append(out, row{with(sample(kind), changes...), e})
	}
	for _, k := range wrongKinds() {
		add(api.ErrKind, 2, func(m *msg.Msg) { m.Kind = k })
	}
	for _, k := range kinds {
		for i, n := range numbers(k) { // also of fields that version 1 hasn't
			add(api.ErrRange, k, func(m *msg.Msg) { m.N[i] = n.least - 1 })
			add(api.ErrRange, k, func(m *msg.Msg) { m.N[i] = n.most + 1 })
			add(api.ErrRange, k, func(m *msg.Msg) { m.N[i] = math.MinInt })
			add(api.ErrRange, k, func(m *msg.Msg) { m.N[i] = math.MaxInt })
		}
		for i := len(numbers(k)); i < 6; i++ {
			add(api.ErrForm, k, func(m *msg.Msg) { m.N[i] = 1 })
		}
		if !hasText(k) {
			add(api.ErrForm, k, func(m *msg.Msg) { m.Text = "x" })
		}
		if !hasCells(k) {
			add(api.ErrForm, k, func(m *msg.Msg) { m.Cells = []int{0} })
		}
		if !hasPath(k) {
			add(api.ErrForm, k, func(m *msg.Msg) { m.Path = []msg.Point{{}} })
			add(api.ErrForm, k, func(m *msg.Msg) { m.Tag = "x" })
		}
	}
	add(api.ErrShort, 1, func(m *msg.Msg) { m.Path = nil })
	add(api.ErrMany, 1, func(m *msg.Msg) { m.Path = make([]msg.Point, 17) })
	add(api.ErrRange, 1, func(m *msg.Msg) { m.Path[2].X = 1000001 })
	add(api.ErrRange, 1, func(m *msg.Msg) { m.Path[0].Y = -1000001 })
	add(api.ErrMany, 1, func(m *msg.Msg) { m.Tag = strings.Repeat("a", 17) })
	add(api.ErrText, 1, func(m *msg.Msg) { m.Tag = "\x7f" })
	add(api.ErrShort, 3, func(m *msg.Msg) { m.Cells = nil })
	add(api.ErrMany, 3, func(m *msg.Msg) { m.Cells = rising(33) })
	add(api.ErrRange, 3, func(m *msg.Msg) { m.Cells[0] = -1 })
	add(api.ErrRange, 3, func(m *msg.Msg) { m.Cells[3] = 65536 })
	add(api.ErrForm, 3, func(m *msg.Msg) { m.Cells[1] = 0 })
	add(api.ErrMany, 5, func(m *msg.Msg) { m.Text = strings.Repeat("a", 65) })
	add(api.ErrText, 5, func(m *msg.Msg) { m.Text = "a\x1f" })
	out = append(out, row{msg.Msg{}, api.ErrKind}, row{msg.Msg{Kind: 1}, api.ErrRange})
	return out
}

// P18.1: what Check refuses has no body in either version, for Check's reason; in a version that is none that is told ahead of it.
func TestRefused(t *testing.T) {
	for _, x := range refused() {
		if e := msg.Check(x.m); e != x.e {
			t.Fatalf("Check(%s): %d, not %d", told(x.m), e, x.e)
		}
		for _, v := range versions {
			bare(t, x.m, v, x.e)
		}
		for _, v := range wrongVersions() {
			bare(t, x.m, v, api.ErrVersion)
		}
	}
	for _, m := range right() {
		for _, v := range wrongVersions() {
			bare(t, m, v, api.ErrVersion)
		}
	}
}

// P18.1: Parts may be left at each of its places, gives them anew, also within another one.
func TestParts(t *testing.T) {
	for _, m := range right() {
		for _, v := range versions {
			s, want := body.Parts(m, v), row(m, v)
			if s == nil {
				t.Fatalf("Parts(%s, %d) is nil", told(m), v)
			}
			for n := 1; n <= len(want)+1; n++ {
				if l := upTo(s, n); !slices.Equal(l, want[:min(n, len(want))]) {
					t.Errorf("Parts(%s, %d), left at %d: %q", told(m), v, n, l)
				}
				if l := upTo(s, -1); !slices.Equal(l, want) {
					t.Errorf("Parts(%s, %d), ranged over again: %q", told(m), v, l)
				}
			}
			var outer []part
			for name, b := range s {
				outer = append(outer, part{name, string(b)})
				n := len(outer)
				if l := upTo(s, n); !slices.Equal(l, want[:n]) {
					t.Errorf("Parts(%s, %d), within at %d: %q", told(m), v, n, l)
				}
				if l := upTo(s, -1); !slices.Equal(l, want) {
					t.Errorf("Parts(%s, %d), within: %q", told(m), v, l)
				}
			}
			if !slices.Equal(outer, want) {
				t.Errorf("Parts(%s, %d), with others within: %q", told(m), v, outer)
			}
		}
	}
	var names []string
	for name := range body.Parts(sample(1), 2) {
		names = append(names, name)
	}
	if s := strings.Join(names, " "); s != "robot speed accel path tag" {
		t.Error("a Move's parts are", s)
	}
}

// roomy: a message whose lists have room behind their ends, with what stands in all of it.
func roomy(m msg.Msg) (msg.Msg, []msg.Point, []int) {
	path, cells := make([]msg.Point, len(m.Path)+5), make([]int, len(m.Cells)+5)
	for i := range path {
		path[i] = msg.Point{X: 70 + i, Y: 80 + i}
	}
	for i := range cells {
		cells[i] = 90 + i
	}
	copy(path, m.Path)
	copy(cells, m.Cells)
	m.Path, m.Cells = path[:len(m.Path)], cells[:len(m.Cells)]
	return m, path, cells
}

// fill: bytes, and what is behind their end, are written to.
func fill(b []byte) {
	b = b[:cap(b)]
	for i := range b {
		b[i] = 99
	}
}

// spill: a message's lists, and what is behind their ends, are written to.
func spill(m msg.Msg) {
	path, cells := m.Path[:cap(m.Path)], m.Cells[:cap(m.Cells)]
	for i := range path {
		path[i] = msg.Point{X: -99, Y: -99}
	}
	for i := range cells {
		cells[i] = -99
	}
}

// P18.1: what Encode and Parts give is new memory; what was handed in stays, and what is behind its lists' ends.
func TestEncodeMemory(t *testing.T) {
	for _, from := range right() {
		for _, v := range versions {
			want, l := whole(row(from, v)), row(from, v)
			m, path, cells := roomy(from)
			wantPath, wantCells := slices.Clone(path), slices.Clone(cells)
			a, _ := body.Encode(m, v)
			b, _ := body.Encode(m, v)
			fill(a)
			s := body.Parts(m, v)
			var all [][]byte
			for _, x := range s {
				all = append(all, x)
			}
			for i, x := range all { // what is written to one is in none of the others
				for j, y := range all[i+1:] {
					if string(y) != l[i+1+j].bytes {
						t.Fatalf("Parts(%s, %d): %d shares with one ahead", told(from), v, i+1+j)
					}
				}
				fill(x)
			}
			for i, x := range all {
				if bytes.ContainsFunc(x, func(c rune) bool { return c != 99 }) {
					t.Fatalf("Parts(%s, %d): %d shares with one behind", told(from), v, i)
				}
			}
			for _, x := range s { // writing to what is given changes nothing that is given later
				fill(x)
			}
			if got := upTo(s, -1); !slices.Equal(got, l) || !bytes.Equal(b, want) {
				t.Errorf("of %s in %d is shared: %q, %v", told(from), v, got, b)
			}
			if body.Size(m, v) != len(want) || !slices.Equal(path, wantPath) || !slices.Equal(cells, wantCells) || told(m) != told(from) {
				t.Errorf("%s was left as %v, %v", told(from), path, cells)
			}
		}
	}
}

// P18.1: Parts are those of the message as it was handed in, whatever is written to it later, also within a ranging.
func TestPartsKept(t *testing.T) {
	for _, from := range right() {
		for _, v := range versions {
			m, _, _ := roomy(from)
			s, want := body.Parts(m, v), row(from, v)
			spill(m)
			if got := upTo(s, -1); !slices.Equal(got, want) {
				t.Errorf("Parts(%s, %d), written to: %q", told(from), v, got)
			}
			m, _, _ = roomy(from)
			var got []part
			for name, b := range body.Parts(m, v) {
				got = append(got, part{name, string(b)})
				spill(m)
			}
			if !slices.Equal(got, want) {
				t.Errorf("Parts(%s, %d), written to within: %q", told(from), v, got)
			}
			wrong := with(from, func(m *msg.Msg) { m.Path, m.Cells, m.N[0] = append(m.Path, msg.Point{}), append(m.Cells, 70000), -1 })
			s = body.Parts(wrong, v)
			spill(wrong)
			if got := upTo(s, -1); len(got) > 0 {
				t.Errorf("Parts(%s, %d): %q", told(wrong), v, got)
			}
		}
	}
}

// P18.2: no version is ahead of no kind, and both are ahead of what the bytes are.
func TestNoSuch(t *testing.T) {
	bodies := [][]byte{nil, {}, {1}, {172, 2, 2, 9}, {0x80, 0}, bytes.Repeat([]byte{255}, 300)}
	for _, m := range right() {
		bodies = append(bodies, whole(row(m, 1)), whole(row(m, 2)))
	}
	for _, b := range bodies {
		for _, v := range wrongVersions() {
			for _, k := range slices.Concat(kinds, wrongKinds()) {
				decodes(t, k, v, b, api.ErrVersion)
			}
		}
		for _, k := range wrongKinds() {
			for _, v := range versions {
				decodes(t, k, v, b, api.ErrKind)
			}
		}
	}
}

// P18.2: no bytes, bodies that are cut short at each place, and those with a byte more, or with some.
func TestCutShort(t *testing.T) {
	for _, k := range kinds {
		for _, v := range versions {
			decodes(t, k, v, nil, api.ErrEnd)
			decodes(t, k, v, []byte{}, api.ErrEnd)
		}
	}
	for _, m := range right() {
		for _, v := range versions {
			b := whole(row(m, v))
			for i := range b {
				decodes(t, m.Kind, v, b[:i], api.ErrEnd)
				decodes(t, m.Kind, v, b[:i:i], api.ErrEnd)
			}
			for c := range 256 {
				decodes(t, m.Kind, v, slices.Concat(b, []byte{byte(c)}), api.ErrForm)
			}
			decodes(t, m.Kind, v, slices.Concat(b, b), api.ErrForm)
			decodes(t, m.Kind, v, slices.Concat(b, make([]byte, 1000)), api.ErrForm)
			decodes(t, m.Kind, v, b, api.OK)
		}
	}
}

// P18.2: of each number bytes that no number has, with the error of these, also where what they would be may not be; and so at the end of what is there.
func TestNumberBytes(t *testing.T) {
	for _, m := range right() {
		for _, v := range versions {
			l := tokens(m, v)
			for i, x := range l {
				if x.text {
					continue
				}
				for _, bad := range formless() {
					decodes(t, m.Kind, v, joined(l, i, []byte(bad)), api.ErrForm)
					decodes(t, m.Kind, v, behind(l, i, bad), api.ErrForm)
				}
				for _, bad := range endless() {
					decodes(t, m.Kind, v, behind(l, i, bad), api.ErrEnd)
				}
			}
		}
	}
}

// P18.2: each number below its least or above its most: ErrRange of a number, of what a point or a cell comes to; ErrShort and ErrMany of how many there are; whatever is behind it.
func TestBeyond(t *testing.T) {
	seen := map[api.Errno]int{}
	for _, m := range right() {
		for _, v := range versions {
			l := tokens(m, v)
			for i, x := range l {
				if x.text {
					continue
				}
				for b, e := range beyond(x) {
					decodes(t, m.Kind, v, joined(l, i, []byte(b)), e)
					decodes(t, m.Kind, v, behind(l, i, b), e)
					decodes(t, m.Kind, v, behind(l, i, b+"\x80\x00"), e)
					seen[e]++
				}
			}
		}
	}
	for _, e := range []api.Errno{api.ErrRange, api.ErrShort, api.ErrMany} {
		if seen[e] < 10 {
			t.Errorf("%d was asked for but %d times", e, seen[e])
		}
	}
}

// P18.2: points that leave the bounds by what is added, each written out; an x goes ahead of its y, but behind its own bytes.
func TestPointErrors(t *testing.T) {
	zig := func(l ...int64) string {
		var b []byte
		for _, n := range l {
			b = binary.AppendVarint(b, n)
		}
		return string(b)
	}
	for _, x := range []struct {
		b string
		e api.Errno
	}{
		{"\x01" + zig(1000000, -1000000), api.OK},
		{"\x01" + zig(1000001, 0), api.ErrRange},
		{"\x01" + zig(0, -1000001), api.ErrRange},
		{"\x02" + zig(1000000, 1000000, -2000000, -2000000), api.OK},
		{"\x02" + zig(1000000, 1000000, -2000001, 0), api.ErrRange},
		{"\x02" + zig(1000000, 1000000, 0, -2000001), api.ErrRange},
		{"\x02" + zig(1000000, 0, 1, 0), api.ErrRange},
		{"\x02" + zig(0, -1000000, 0, -1), api.ErrRange},
		{"\x02" + zig(1, 0, 1000000, 0), api.ErrRange},
		{"\x02" + zig(-1, 0, 1000000, 0), api.OK},
		{"\x02" + zig(1000000, 0, math.MaxInt64, 0), api.ErrRange}, // 64 bits don't hold what it comes to
		{"\x02" + zig(-1000000, 0, math.MinInt64, 0), api.ErrRange},
		{"\x02" + zig(0, 1000000, 0, math.MaxInt64-999999), api.ErrRange},
		{"\x02" + zig(0, -1000000, 0, math.MinInt64+999999), api.ErrRange},
		{"\x03" + zig(1, 1, -1, -1, 1000000, 1000001), api.ErrRange},
		{"\x01" + zig(1000001) + "\x80\x00", api.ErrRange}, // the x may not be, the y is no number
		{"\x01" + zig(1000001) + "\x80", api.ErrRange},
		{"\x01" + zig(1000001), api.ErrRange},
		{"\x01\x80\x00" + zig(1000001), api.ErrForm},
		{"\x01" + zig(5) + "\x80", api.ErrEnd},
		{"\x01" + zig(5), api.ErrEnd},
		{"\x02" + zig(0, 1000001) + "\x80\x00", api.ErrRange},
		{"\x02" + zig(0, 0) + "\x80\x00" + zig(1000001), api.ErrForm},
	} {
		decodes(t, 1, 1, []byte("\x01\x01"+x.b), x.e)
		if x.e != api.OK {
			decodes(t, 1, 2, []byte("\x01\x01\x01"+x.b+"\x11"), x.e) // the tag's error is behind it
		} else {
			decodes(t, 1, 2, []byte("\x01\x01\x01"+x.b+"\x00"), x.e)
		}
	}
}

// P18.2: cells that go above the greatest by what is added, each written out.
func TestCellErrors(t *testing.T) {
	of := func(l ...uint64) string {
		b := binary.AppendUvarint(nil, uint64(len(l)))
		for _, n := range l {
			b = binary.AppendUvarint(b, n)
		}
		return string(b)
	}
	for _, x := range []struct {
		b string
		e api.Errno
	}{
		{of(0), api.OK}, {of(65535), api.OK}, {of(65536), api.ErrRange}, {of(0, 65534), api.OK}, {of(0, 65535), api.ErrRange}, {of(0, 65536), api.ErrRange},
		{of(65534, 0), api.OK}, {of(65534, 1), api.ErrRange}, {of(65535, 0), api.ErrRange}, {of(65535, 1), api.ErrRange}, {of(65534, 0, 0), api.ErrRange},
		{of(5, 1<<64-1), api.ErrRange}, {of(5, 1<<64-6), api.ErrRange}, {of(5, 1<<64-3), api.ErrRange}, {of(5, 1<<63-1), api.ErrRange}, {of(5, 1<<63-6), api.ErrRange}, {of(5, 1<<63), api.ErrRange}, // 64 bits don't hold what it comes to
		{of(5, 1<<32-6), api.ErrRange}, {of(5, 1<<32), api.ErrRange}, {of(1<<64 - 1), api.ErrRange}, {of(1 << 63), api.ErrRange},
		{"\x02\xff\xff\x03\x80\x00", api.ErrForm}, {"\x02\xff\xff\x03\x80", api.ErrEnd}, {"\x02\xff\xff\x03", api.ErrEnd}, {"\x03\xff\xff\x03\x00\x80\x00", api.ErrRange}, {"\x02\x80\x80\x04\x80", api.ErrRange},
	} {
		decodes(t, 3, 1, []byte("\x00\x00"+x.b), x.e)
		decodes(t, 3, 2, []byte("\x00\x00\x01"+x.b), x.e)
	}
}

// P18.2: none and too many of points and cells, each written out; too many are told ahead of what there is of them.
func TestSizes(t *testing.T) {
	for _, x := range []struct {
		kind, most int
		ahead, one string
	}{{1, 16, "\x01\x02", "\x01\x02"}, {3, 32, "\x01\x02", "\x00"}} {
		of := func(n uint64, things int) []byte {
			return append(binary.AppendUvarint([]byte(x.ahead), n), strings.Repeat(x.one, things)...)
		}
		decodes(t, x.kind, 1, of(0, 0), api.ErrShort)
		decodes(t, x.kind, 1, of(0, 1), api.ErrShort)
		for n := 1; n <= x.most; n++ {
			decodes(t, x.kind, 1, of(uint64(n), n), api.OK)
			decodes(t, x.kind, 1, of(uint64(n), n-1), api.ErrEnd)
			decodes(t, x.kind, 1, of(uint64(n), n+1), api.ErrForm)
		}
		for _, n := range []uint64{uint64(x.most) + 1, uint64(x.most) + 2, 255, 256, 257, 1<<32 + 1, 1 << 63, 1<<63 + 1, 1<<64 - 1} {
			for _, things := range []int{0, 1, x.most, x.most + 1, 257} {
				decodes(t, x.kind, 1, of(n, things), api.ErrMany)
			}
		}
	}
}

// P18.2: a text's and a tag's bytes: too many, fewer than told, more than told, and each byte at each place.
func TestTextErrors(t *testing.T) {
	for _, x := range []struct {
		kind, most int
		ahead      string
	}{{5, 64, "\x01\x02\x03\x04\x05"}, {1, 16, "\x01\x02\x03\x01\x00\x00"}} {
		of := func(n uint64, s string) []byte { return append(binary.AppendUvarint([]byte(x.ahead), n), s...) }
		for n := 0; n <= x.most; n++ {
			s := strings.Repeat("a", n)
			decodes(t, x.kind, 2, of(uint64(n), s), api.OK)
			decodes(t, x.kind, 2, of(uint64(n), s+"a"), api.ErrForm)
			decodes(t, x.kind, 2, of(uint64(n), s+"\n"), api.ErrForm)
			if n < x.most {
				decodes(t, x.kind, 2, of(uint64(n+1), s), api.ErrEnd)
				decodes(t, x.kind, 2, of(uint64(n+1), strings.Repeat("\x7f", n)), api.ErrEnd) // ahead of what the bytes are
			}
			for _, b := range []string{"\x1f", "\x7f", "\x80"} {
				decodes(t, x.kind, 2, of(uint64(n+1), s+b), map[bool]api.Errno{true: api.ErrText, false: api.ErrMany}[n < x.most])
				decodes(t, x.kind, 2, of(uint64(n+1), s+b+"a"), map[bool]api.Errno{true: api.ErrText, false: api.ErrMany}[n < x.most])
			}
		}
		for _, n := range []uint64{uint64(x.most) + 1, uint64(x.most) + 2, 127, 128, 255, 256, 257, 1<<32 + 1, 1 << 63, 1<<63 + 1, 1<<64 - 1} {
			for _, s := range []string{"", "a", "\n", strings.Repeat("a", x.most), strings.Repeat("a", x.most+1), strings.Repeat("\xff", 300)} {
				decodes(t, x.kind, 2, of(n, s), api.ErrMany)
			}
		}
		for i := range x.most {
			for b := range 256 {
				l := []byte(strings.Repeat("a", x.most))
				l[i] = byte(b)
				want := api.OK
				if b < 32 || b > 126 {
					want = api.ErrText
				}
				decodes(t, x.kind, 2, of(uint64(x.most), string(l)), want)
			}
		}
	}
}

// faults: what may be wrong with the token at i: its bytes, each with its error, that may stand ahead of anything.
func faults(l []token, i int) map[string]api.Errno {
	out := map[string]api.Errno{}
	if l[i].text {
		if len(l[i].bytes) > 0 {
			out[string(append([]byte{127}, l[i].bytes[1:]...))] = api.ErrText
		}
		return out
	}
	for b, e := range beyond(l[i]) {
		out[b] = e
	}
	out["\x80\x00"] = api.ErrForm
	return out
}

// P18.2: of two things that are wrong the first from the left is told; also of one and of the body's end.
func TestOrder(t *testing.T) {
	for _, k := range kinds {
		for _, v := range versions {
			l := tokens(sample(k), v)
			for i := range l {
				for b, e := range faults(l, i) {
					spoiled := slices.Clone(l)
					spoiled[i].bytes = []byte(b)
					decodes(t, k, v, joined(spoiled, -1, nil), e)
					decodes(t, k, v, append(joined(spoiled, -1, nil), 0), e)
					decodes(t, k, v, joined(spoiled[:i+1], -1, nil), e)
					for j := i + 1; j < len(l); j++ {
						for c := range faults(l, j) {
							decodes(t, k, v, joined(spoiled, j, []byte(c)), e)
						}
					}
				}
			}
		}
	}
}

// P18.2: what version 1 hasn't is Absent, and the tag empty, each written out; version 2 has it.
func TestAbsent(t *testing.T) {
	for _, x := range []struct {
		kind, version int
		b             string
		m             msg.Msg
	}{
		{1, 1, "\x05\x06\x01\x02\x04", msg.Msg{Kind: 1, N: [6]int{5, 6, 500}, Path: []msg.Point{{X: 1, Y: 2}}}},
		{1, 2, "\x05\x06\x07\x01\x02\x04\x01z", msg.Msg{Kind: 1, N: [6]int{5, 6, 7}, Path: []msg.Point{{X: 1, Y: 2}}, Tag: "z"}},
		{2, 1, "\x05\x06", msg.Msg{Kind: 2, N: [6]int{5, 6, 0}}},
		{2, 2, "\x05\x06\x07", msg.Msg{Kind: 2, N: [6]int{5, 6, 7}}},
		{3, 1, "\x05\x06\x01\x08", msg.Msg{Kind: 3, N: [6]int{5, 6, 1}, Cells: []int{8}}},
		{3, 2, "\x05\x06\x07\x01\x08", msg.Msg{Kind: 3, N: [6]int{5, 6, 7}, Cells: []int{8}}},
		{4, 1, "\x05\x01\x03\x07\x08", msg.Msg{Kind: 4, N: [6]int{5, -1, -2, 7, 8, 100}}},
		{4, 2, "\x05\x01\x03\x07\x08\x09", msg.Msg{Kind: 4, N: [6]int{5, -1, -2, 7, 8, 9}}},
		{5, 1, "\x05\x06\x04\x02ok", msg.Msg{Kind: 5, N: [6]int{5, 6, 4, 0, 1}, Text: "ok"}},
		{5, 2, "\x05\x06\x04\x08\x09\x02ok", msg.Msg{Kind: 5, N: [6]int{5, 6, 4, 8, 9}, Text: "ok"}},
	} {
		m, e := body.Decode(x.kind, x.version, []byte(x.b))
		if e != api.OK || told(m) != told(x.m) {
			t.Errorf("Decode(%d, %d, %q): %s, %d", x.kind, x.version, x.b, told(m), e)
		}
		decodes(t, x.kind, x.version, []byte(x.b), api.OK)
		decodes(t, x.kind, x.version, []byte(x.b+"\x01"), api.ErrForm)
	}
}

// P18.2: what Decode gives is new memory; the bytes that were handed in stay, and what is behind their end.
func TestDecodeMemory(t *testing.T) {
	for _, from := range right() {
		for _, v := range versions {
			want := told(projected(from, v))
			room := append(whole(row(from, v)), 200, 201, 202)
			kept := slices.Clone(room)
			b := room[:len(room)-3]
			one, _ := body.Decode(from.Kind, v, b)
			other, _ := body.Decode(from.Kind, v, b)
			spill(one)
			if !bytes.Equal(room, kept) {
				t.Errorf("Decode(%d, %d, %v) left %v", from.Kind, v, kept, room)
			}
			if told(other) != want {
				t.Errorf("Decode(%d, %d, %v) shares with another: %s", from.Kind, v, b, told(other))
			}
			fill(room)
			if told(other) != want {
				t.Errorf("Decode(%d, %d, %v) shares with it: %s", from.Kind, v, kept, told(other))
			}
			short := kept[: len(kept)-4 : len(kept)-4] // with an error nothing is given, and nothing left of it
			if m, e := body.Decode(from.Kind, v, short); e != api.ErrEnd || told(m) != told(msg.Msg{}) {
				t.Errorf("Decode(%d, %d, %v): %s, %d", from.Kind, v, short, told(m), e)
			}
			if m, e := body.Decode(from.Kind, v, kept[:len(kept)-3]); e != api.OK || told(m) != want {
				t.Errorf("Decode(%d, %d, %v), once more: %s, %d", from.Kind, v, kept, told(m), e)
			}
		}
	}
}

// chance: a right message of any kind, made of a row that is the same at each run.
func chance(r *rand.Rand) msg.Msg {
	k := kinds[r.Intn(5)]
	m := ends(k, r.Intn(2) == 0)
	for i, n := range numbers(k) {
		if r.Intn(4) > 0 {
			m.N[i] = n.least + r.Intn(n.most-n.least+1)
		}
	}
	line := func(most int) string {
		var b []byte
		for range r.Intn(most + 1) {
			b = append(b, byte(32+r.Intn(95)))
		}
		return string(b)
	}
	if hasPath(k) {
		span := []int{10, 1000, 1000000}[r.Intn(3)]
		m.Path = nil
		for range 1 + r.Intn(16) {
			m.Path = append(m.Path, msg.Point{X: r.Intn(2*span+1) - span, Y: r.Intn(2*span+1) - span})
		}
		m.Tag = line(16)
	}
	if hasCells(k) {
		span := []int{40, 1000, 65536}[r.Intn(3)]
		m.Cells = nil
		for range 1 + r.Intn(32) {
			m.Cells = append(m.Cells, r.Intn(span))
		}
		slices.Sort(m.Cells)
		m.Cells = slices.Compact(m.Cells)
	}
	if hasText(k) {
		m.Text = line(64)
	}
	return m
}

// P18.3: what is encoded is decoded as its Project, of many messages; what is encoded of that is the same.
func TestFollows(t *testing.T) {
	r := rand.New(rand.NewSource(18))
	for range 10000 {
		m := chance(r)
		inBoth(t, m)
		a, _ := body.Encode(m, 1)
		b, e := body.Encode(msg.Project(m, 1), 1)
		if e != api.OK || !bytes.Equal(a, b) {
			t.Errorf("%s, projected: %v, %d, not %v", told(m), b, e, a)
		}
	}
}

// spoil: something of a body's bytes changes.
func spoil(r *rand.Rand, b []byte) []byte {
	values := []byte{0, 1, 2, 16, 17, 31, 32, 33, 64, 65, 126, 127, 128, 129, 255}
	c := values[r.Intn(len(values))]
	i := r.Intn(len(b) + 1)
	switch r.Intn(6) {
	case 0:
		return slices.Insert(b, i, c)
	case 1:
		return b[:i]
	case 2:
		return append(b, c)
	}
	if i == len(b) {
		return b
	}
	switch r.Intn(3) {
	case 0:
		b[i] = c
	case 1:
		b[i] ^= 1 << r.Intn(8)
	default:
		return slices.Delete(b, i, i+1)
	}
	return b
}

// P18.2, P18.3: many bodies that are spoiled, and read as another kind's or in another version, are as the words have them; what is decoded is encoded to just these bytes.
func TestChance(t *testing.T) {
	r := rand.New(rand.NewSource(81))
	seen := map[api.Errno]int{}
	for range 40000 {
		m := chance(r)
		b := whole(row(m, 1+r.Intn(2)))
		for range r.Intn(4) {
			b = spoil(r, b)
		}
		k, v := m.Kind, 1+r.Intn(2)
		if r.Intn(4) == 0 {
			k = kinds[r.Intn(5)]
		}
		_, e := meant(k, v, b)
		decodes(t, k, v, b, e)
		seen[e]++
	}
	for _, e := range []api.Errno{api.OK, api.ErrForm, api.ErrEnd, api.ErrRange, api.ErrMany, api.ErrShort, api.ErrText} {
		if seen[e] < 100 {
			t.Errorf("%d was told but %d times", e, seen[e])
		}
	}
}

// P18.2: all rows of up to four bytes, of some that make a difference, behind what makes each kind begin.
func TestRows(t *testing.T) {
	some := []byte{0, 1, 2, 16, 31, 127, 128, 255}
	rows, last := [][]byte{{}}, [][]byte{{}}
	for range 4 {
		var next [][]byte
		for _, b := range last {
			for _, c := range some {
				next = append(next, slices.Concat(b, []byte{c}))
			}
		}
		rows, last = append(rows, next...), next
	}
	for _, k := range kinds {
		for _, v := range versions {
			for _, b := range rows {
				for _, ahead := range []string{"", "\x01\x01", "\x01\x01\x01", "\x01\x01\x01\x01\x01"} {
					full := append([]byte(ahead), b...)
					_, e := meant(k, v, full)
					decodes(t, k, v, full, e)
				}
			}
		}
	}
}
