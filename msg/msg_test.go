package msg_test

import (
	"fmt"
	"iter"
	"math"
	"math/rand"
	"slices"
	"strings"
	"testing"

	"cuneiform/api"
	"cuneiform/msg"
)

// number: a field that is a number, as the words of chapter 16 have it, and what New has of it.
type number struct {
	name        string
	least, most int
	since       int
	absent      int // of version 1, where it is since version 2
	fresh       int
}

// pair: what Numbers gives at once.
type pair struct {
	name  string
	value int
}

// kinds: all there are.
var kinds = []int{1, 2, 3, 4, 5}

// numbers: a kind's, in order, each written out.
func numbers(kind int) []number {
	return map[int][]number{
		1: {{"robot", 0, 65535, 1, 0, 0}, {"speed", 1, 5000, 1, 0, 1}, {"accel", 1, 10000, 2, 500, 500}},
		2: {{"robot", 0, 65535, 1, 0, 0}, {"reason", 0, 15, 1, 0, 0}, {"zone", 0, 4095, 2, 0, 0}},
		3: {{"robot", 0, 65535, 1, 0, 0}, {"zone", 0, 4095, 1, 0, 0}, {"lease", 1, 255, 2, 1, 1}},
		4: {
			{"robot", 0, 65535, 1, 0, 0}, {"x", -1000000, 1000000, 1, 0, 0}, {"y", -1000000, 1000000, 1, 0, 0},
			{"heading", 0, 35999, 1, 0, 0}, {"battery", 0, 1000, 1, 0, 0}, {"sure", 0, 100, 2, 100, 100},
		},
		5: {
			{"robot", 0, 65535, 1, 0, 0}, {"code", 1, 9999, 1, 0, 1}, {"severity", 0, 4, 1, 0, 0},
			{"part", 0, 255, 2, 0, 0}, {"times", 1, 1000000, 2, 1, 1},
		},
	}[kind]
}

// What a kind has beside its numbers.
func hasPath(kind int) bool  { return kind == 1 }
func hasCells(kind int) bool { return kind == 3 }
func hasText(kind int) bool  { return kind == 5 }
func hasTag(kind int) bool   { return kind == 1 }

// sample: a right message of each kind, which has no field that is as it is in version 1, nor one as New has it.
func sample(kind int) msg.Msg {
	return map[int]msg.Msg{
		1: {Kind: 1, N: [6]int{7, 100, 300}, Path: []msg.Point{{X: 1, Y: -2}, {X: 1000000, Y: -1000000}, {X: 0, Y: 5}}, Tag: "a b"},
		2: {Kind: 2, N: [6]int{300, 2, 9}},
		3: {Kind: 3, N: [6]int{8, 12, 30}, Cells: []int{0, 5, 65535}},
		4: {Kind: 4, N: [6]int{9, -5, 6, 18000, 900, 55}},
		5: {Kind: 5, N: [6]int{10, 404, 3, 17, 22}, Text: "lost ~ way"},
	}[kind]
}

// ends: a right message whose numbers are the least, or the greatest, and that has the least, or the most, of all else.
func ends(kind int, most bool) msg.Msg {
	m := msg.Msg{Kind: kind}
	size := func(least, greatest int) int {
		if most {
			return greatest
		}
		return least
	}
	for i, n := range numbers(kind) {
		m.N[i] = size(n.least, n.most)
	}
	if hasPath(kind) {
		m.Path = slices.Repeat([]msg.Point{{X: size(-1000000, 1000000), Y: size(-1000000, 1000000)}}, size(1, 16))
	}
	if hasCells(kind) {
		m.Cells = rising(size(1, 32))
	}
	if hasText(kind) {
		m.Text = strings.Repeat("~", size(0, 64))
	}
	if hasTag(kind) {
		m.Tag = strings.Repeat(" ", size(0, 16))
	}
	return m
}

// rising: so many cells that may be.
func rising(n int) []int {
	l := []int{}
	for i := range n {
		l = append(l, 2*i)
	}
	return l
}

// with: a message, changed; the one that is handed in stays.
func with(m msg.Msg, changes ...func(m *msg.Msg)) msg.Msg {
	m.Path, m.Cells = slices.Clone(m.Path), slices.Clone(m.Cells)
	for _, change := range changes {
		change(&m)
	}
	return m
}

// told: a message as a text, so that two texts are one just where the messages are; nil and empty lists are one in it.
func told(m msg.Msg) string {
	return fmt.Sprintf("%d %v %d%v %d%v %q %q", m.Kind, m.N, len(m.Path), m.Path, len(m.Cells), m.Cells, m.Text, m.Tag)
}

// wrongKinds: numbers that are no kind's: next to those, far off, and some that are within but for what a byte or 32 bits can't hold.
func wrongKinds() []int {
	return []int{
		0, 6, 7, -1, -2, -5, 100, 255, 256, 257, 261, -255, -251, 1<<31 - 1, 1 << 31, 1<<32 + 1, 1<<32 + 5, -1<<32 + 1,
		math.MinInt, math.MinInt + 1, math.MinInt + 5, math.MaxInt - 1, math.MaxInt,
	}
}

// otherVersions: versions of which a message is told as a copy.
func otherVersions() []int {
	return []int{2, 0, 3, 4, -1, -2, 255, 256, 257, -255, 1<<31 + 1, 1<<32 + 1, -1<<32 + 1, math.MinInt, math.MinInt + 1, math.MaxInt - 1, math.MaxInt}
}

// far: numbers that no bounds hold, and that may be within them but for what 16 or 32 bits can't hold.
func far() []int {
	return []int{
		math.MinInt, math.MinInt + 1, math.MaxInt, math.MaxInt - 1,
		1 << 31, 1<<31 - 1, -1 << 31, -1<<31 - 1, 1 << 32, 1<<32 + 1, -1 << 32, -1<<32 + 1, 1<<62 + 1,
	}
}

// odd: wrong messages, and such as no call but Check asks whether they are.
func odd() []msg.Msg {
	full := msg.Msg{N: [6]int{-1, 70000, math.MinInt, math.MaxInt, -7, 8}, Path: []msg.Point{{X: 2000000, Y: math.MinInt}, {}}, Cells: []int{9, 3, -4}, Text: "te\nxt", Tag: "t\x00ag"}
	out := []msg.Msg{{}, full}
	for _, k := range slices.Concat(kinds, wrongKinds()) {
		out = append(out, msg.Msg{Kind: k}, with(full, func(m *msg.Msg) { m.Kind = k }))
	}
	for _, k := range kinds {
		out = append(out, with(full, func(m *msg.Msg) { m.Kind, m.Path, m.Cells = k, []msg.Point{}, []int{} }))
	}
	return out
}

// every: right messages and wrong ones.
func every() []msg.Msg {
	out := odd()
	for _, k := range kinds {
		out = append(out, sample(k), ends(k, false), ends(k, true))
	}
	return out
}

// wrong: what is wrong with a message, by the words of P17.1: of each thing, in order, the error it has.
func wrong(m msg.Msg) api.Errno {
	if m.Kind < 1 || m.Kind > 5 {
		return api.ErrKind
	}
	l := numbers(m.Kind)
	var all []api.Errno
	for i, n := range l {
		all = append(all, when(m.N[i] < n.least || m.N[i] > n.most, api.ErrRange))
	}
	if hasPath(m.Kind) {
		all = append(all, when(len(m.Path) == 0, api.ErrShort), when(len(m.Path) > 16, api.ErrMany))
		for _, p := range m.Path {
			all = append(all, when(p.X < -1000000 || p.X > 1000000 || p.Y < -1000000 || p.Y > 1000000, api.ErrRange))
		}
	}
	if hasCells(m.Kind) {
		all = append(all, when(len(m.Cells) == 0, api.ErrShort), when(len(m.Cells) > 32, api.ErrMany))
		for i, c := range m.Cells {
			all = append(all, when(c < 0 || c > 65535, api.ErrRange), when(i > 0 && c <= m.Cells[max(i-1, 0)], api.ErrForm))
		}
	}
	if hasText(m.Kind) {
		all = append(all, when(len(m.Text) > 64, api.ErrMany), when(unfit(m.Text), api.ErrText))
	}
	if hasTag(m.Kind) {
		all = append(all, when(len(m.Tag) > 16, api.ErrMany), when(unfit(m.Tag), api.ErrText))
	}
	all = append(all, when(m.N != with(m, func(m *msg.Msg) { clear(m.N[len(l):]) }).N, api.ErrForm))
	all = append(all, when(!hasPath(m.Kind) && len(m.Path) > 0, api.ErrForm), when(!hasCells(m.Kind) && len(m.Cells) > 0, api.ErrForm))
	all = append(all, when(!hasText(m.Kind) && m.Text != "", api.ErrForm), when(!hasTag(m.Kind) && m.Tag != "", api.ErrForm))
	for _, e := range all {
		if e != api.OK {
			return e
		}
	}
	return api.OK
}

func when(is bool, e api.Errno) api.Errno {
	if is {
		return e
	}
	return api.OK
}

// unfit: has a text a byte that isn't from 32 to 126?
func unfit(s string) bool {
	return slices.ContainsFunc([]byte(s), func(b byte) bool { return b < 32 || b > 126 })
}

// asked: that Check answers so, and that the words do.
func asked(t *testing.T, m msg.Msg, want api.Errno) {
	t.Helper()
	before := told(m)
	if e := msg.Check(m); e != want {
		t.Errorf("Check(%s): %d, not %d", before, e, want)
	}
	if e := wrong(m); e != want {
		t.Errorf("by the words %s: %d, not %d", before, e, want)
	}
	if told(m) != before {
		t.Errorf("Check of %s left %s", before, told(m))
	}
}

// P17.1: right messages of each kind: ordinary ones, those at their bounds, new ones; also with empty lists in the place of none.
func TestRight(t *testing.T) {
	for _, k := range kinds {
		for _, m := range []msg.Msg{sample(k), ends(k, false), ends(k, true), msg.New(k)} {
			asked(t, m, api.OK)
			asked(t, with(m, func(m *msg.Msg) {
				if len(m.Path) == 0 {
					m.Path = []msg.Point{}
				}
				if len(m.Cells) == 0 {
					m.Cells = []int{}
				}
			}), api.OK)
		}
	}
	for _, m := range []msg.Msg{sample(1), sample(3)} { // what is behind the end doesn't count
		m.Path = slices.Concat(m.Path, []msg.Point{{X: 9999999}})[:len(m.Path)]
		m.Cells = slices.Concat(m.Cells, []int{-1})[:len(m.Cells)]
		asked(t, m, api.OK)
	}
}

// P17.1: no kind is ahead of all else.
func TestWrongKind(t *testing.T) {
	for _, k := range wrongKinds() {
		asked(t, msg.Msg{Kind: k}, api.ErrKind)
		for _, m := range every() {
			m.Kind = k
			asked(t, m, api.ErrKind)
		}
	}
}

// P17.1: each number at its bounds, one beyond them, and far beyond.
func TestNumberBounds(t *testing.T) {
	for _, k := range kinds {
		for i, n := range numbers(k) {
			at := func(v int) msg.Msg { return with(sample(k), func(m *msg.Msg) { m.N[i] = v }) }
			for _, v := range []int{n.least, n.least + 1, n.most - 1, n.most} {
				asked(t, at(v), api.OK)
			}
			for _, v := range slices.Concat([]int{n.least - 1, n.most + 1, n.least - 2, n.most + 2, n.most + 1<<16, n.most + 1<<32, n.least - 1<<32}, far()) {
				asked(t, at(v), api.ErrRange)
			}
		}
	}
}

// P17.1: paths of no points and of too many.
func TestPathSize(t *testing.T) {
	of := func(l []msg.Point) msg.Msg { return with(sample(1), func(m *msg.Msg) { m.Path = l }) }
	asked(t, of(nil), api.ErrShort)
	asked(t, of([]msg.Point{}), api.ErrShort)
	asked(t, of(sample(1).Path[:0]), api.ErrShort)
	for n := 1; n <= 16; n++ {
		asked(t, of(make([]msg.Point, n)), api.OK)
	}
	for _, n := range []int{17, 18, 32, 33, 255, 256, 257, 65536, 65537, 100000} {
		asked(t, of(make([]msg.Point, n)), api.ErrMany)
		asked(t, of(slices.Repeat([]msg.Point{{X: math.MinInt, Y: math.MaxInt}}, n)), api.ErrMany)
	}
}

// P17.1: each point's x and y, at each place.
func TestPoints(t *testing.T) {
	for n := 1; n <= 16; n++ {
		for i := range n {
			at := func(p msg.Point) msg.Msg {
				return with(sample(1), func(m *msg.Msg) { m.Path = make([]msg.Point, n); m.Path[i] = p })
			}
			for _, v := range []int{-1000000, -999999, 999999, 1000000} {
				asked(t, at(msg.Point{X: v}), api.OK)
				asked(t, at(msg.Point{Y: v}), api.OK)
				asked(t, at(msg.Point{X: v, Y: -v}), api.OK)
			}
			for _, v := range slices.Concat([]int{-1000001, 1000001}, far()) {
				asked(t, at(msg.Point{X: v}), api.ErrRange)
				asked(t, at(msg.Point{Y: v}), api.ErrRange)
				asked(t, at(msg.Point{X: v, Y: v}), api.ErrRange)
			}
		}
	}
}

// P17.1: none and too many of cells.
func TestCellsSize(t *testing.T) {
	of := func(l []int) msg.Msg { return with(sample(3), func(m *msg.Msg) { m.Cells = l }) }
	asked(t, of(nil), api.ErrShort)
	asked(t, of([]int{}), api.ErrShort)
	asked(t, of(sample(3).Cells[:0]), api.ErrShort)
	for n := 1; n <= 32; n++ {
		asked(t, of(rising(n)), api.OK)
	}
	for _, n := range []int{33, 34, 64, 65, 255, 256, 257, 65537, 100000} {
		asked(t, of(rising(n)), api.ErrMany)
		asked(t, of(make([]int, n)), api.ErrMany)
		asked(t, of(slices.Repeat([]int{-1}, n)), api.ErrMany)
	}
}

// P17.1: cell by cell whether it may be, then whether it is above the one ahead.
func TestCells(t *testing.T) {
	for _, x := range []struct {
		e api.Errno
		l []int
	}{
		{api.OK, []int{0}}, {api.OK, []int{65535}}, {api.OK, []int{0, 1}}, {api.OK, []int{65534, 65535}}, {api.OK, []int{0, 65535}}, {api.OK, []int{3, 4, 5, 900}},
		{api.ErrRange, []int{-1}}, {api.ErrRange, []int{65536}}, {api.ErrRange, []int{-2, -1}}, {api.ErrRange, []int{-1, 0}}, {api.ErrRange, []int{65535, 65536}}, {api.ErrRange, []int{0, 1, 65536}},
		{api.ErrForm, []int{0, 0}}, {api.ErrForm, []int{65535, 65535}}, {api.ErrForm, []int{5, 4}}, {api.ErrForm, []int{65535, 0}}, {api.ErrForm, []int{1, 5, 5}}, {api.ErrForm, []int{1, 5, 1}}, {api.ErrForm, []int{1, 5, 3, 7}}, {api.ErrForm, []int{1, 9, 2, 3}},
		{api.ErrRange, []int{5, -1}}, {api.ErrRange, []int{-1, -1}}, {api.ErrRange, []int{65536, 65536}}, {api.ErrRange, []int{65536, 5}}, // both of one cell, or the range of an earlier one
		{api.ErrForm, []int{5, 5, -1}}, {api.ErrForm, []int{5, 4, 65536}}, {api.ErrRange, []int{5, 65536, 65536, 3}}, // the earlier cell's
	} {
		asked(t, msg.Msg{Kind: 3, N: [6]int{0, 0, 1}, Cells: x.l}, x.e)
	}
	for n := 1; n <= 32; n++ {
		for i := range n {
			at := func(v int) msg.Msg {
				return with(sample(3), func(m *msg.Msg) { m.Cells = rising(n); m.Cells[i] = v })
			}
			for _, v := range slices.Concat([]int{-1, 65536, -65535, 65536 + 2*i}, far()) {
				asked(t, at(v), api.ErrRange)
			}
			if i > 0 {
				asked(t, at(2*i-1), api.OK)
				asked(t, at(2*i-2), api.ErrForm)
				asked(t, at(0), api.ErrForm)
			}
			if i < n-1 {
				asked(t, at(2*i+2), api.ErrForm)
				asked(t, at(65535), api.ErrForm)
			} else {
				asked(t, at(65535), api.OK)
			}
		}
	}
}

// texts: of each field that is one, who has it, how many bytes it may have, and how it is set.
func texts() []struct {
	kind, most int
	set        func(m *msg.Msg, s string)
} {
	return []struct {
		kind, most int
		set        func(m *msg.Msg, s string)
	}{
		{5, 64, func(m *msg.Msg, s string) { m.Text = s }},
		{1, 16, func(m *msg.Msg, s string) { m.Tag = s }},
	}
}

// P17.1: a text and a tag of no bytes, of as many as may be, and of more: bytes are counted, no runes.
func TestTextSize(t *testing.T) {
	for _, x := range texts() {
		of := func(s string) msg.Msg { return with(sample(x.kind), func(m *msg.Msg) { x.set(m, s) }) }
		for n := 0; n <= x.most; n++ {
			asked(t, of(strings.Repeat("a", n)), api.OK)
		}
		for _, n := range []int{x.most + 1, x.most + 2, 2 * x.most, 255, 256, 257, 65536, 100000} {
			asked(t, of(strings.Repeat("a", n)), api.ErrMany)
			asked(t, of(strings.Repeat("\n", n)), api.ErrMany)
		}
		asked(t, of(strings.Repeat("\u00e9", x.most/2)), api.ErrText)
		asked(t, of(strings.Repeat("\u00e9", x.most/2+1)), api.ErrMany)
		asked(t, of(strings.Repeat("\u20ac", x.most)), api.ErrMany)
	}
}

// P17.1: each byte at each place of a text and a tag.
func TestTextBytes(t *testing.T) {
	for _, x := range texts() {
		for b := range 256 {
			want := when(b < 32 || b > 126, api.ErrText)
			for i := range x.most {
				l := []byte(strings.Repeat("a", x.most))
				l[i] = byte(b)
				asked(t, with(sample(x.kind), func(m *msg.Msg) { x.set(m, string(l)) }), want)
			}
			asked(t, with(sample(x.kind), func(m *msg.Msg) { x.set(m, string([]byte{byte(b)})) }), want)
		}
		for _, s := range []string{"\u00e9", "\u20ac", "\xff\xfe", "a\u0101b", "\U0001f916", "\ufffd", "ok\u00a0"} {
			asked(t, with(sample(x.kind), func(m *msg.Msg) { x.set(m, s) }), api.ErrText)
		}
		asked(t, with(sample(x.kind), func(m *msg.Msg) { x.set(m, " ~ ") }), api.OK)
	}
}

// others: changes of each thing that is no field of a kind, to be something else than 0 or empty.
func others(kind int) []func(m *msg.Msg) {
	var out []func(m *msg.Msg)
	for i := len(numbers(kind)); i < 6; i++ {
		for _, v := range slices.Concat([]int{1, -1, 500, 256, 65536}, far()) {
			out = append(out, func(m *msg.Msg) { m.N[i] = v })
		}
	}
	if !hasPath(kind) {
		out = append(out, func(m *msg.Msg) { m.Path = []msg.Point{{}} }, func(m *msg.Msg) { m.Path = make([]msg.Point, 99) }, func(m *msg.Msg) { m.Path = []msg.Point{{X: math.MinInt}} })
	}
	if !hasCells(kind) {
		out = append(out, func(m *msg.Msg) { m.Cells = []int{0} }, func(m *msg.Msg) { m.Cells = make([]int, 99) }, func(m *msg.Msg) { m.Cells = []int{-1} })
	}
	if !hasText(kind) {
		out = append(out, func(m *msg.Msg) { m.Text = "x" }, func(m *msg.Msg) { m.Text = "\x00" }, func(m *msg.Msg) { m.Text = strings.Repeat(" ", 99) })
	}
	if !hasTag(kind) {
		out = append(out, func(m *msg.Msg) { m.Tag = "x" }, func(m *msg.Msg) { m.Tag = "\x00" }, func(m *msg.Msg) { m.Tag = strings.Repeat(" ", 99) })
	}
	return out
}

// faults: changes that make a kind's message wrong, each with its error, in the order in which they are told; each may be done behind those ahead of it.
func faults(kind int) []struct {
	e  api.Errno
	do func(m *msg.Msg)
} {
	type fault = struct {
		e  api.Errno
		do func(m *msg.Msg)
	}
	var out []fault
	add := func(e api.Errno, do func(m *msg.Msg)) { out = append(out, fault{e, do}) }
	for i, n := range numbers(kind) {
		add(api.ErrRange, func(m *msg.Msg) { m.N[i] = n.most + 1 })
	}
	if hasPath(kind) {
		add(api.ErrMany, func(m *msg.Msg) { m.Path = append(m.Path, make([]msg.Point, 16)...) })
		add(api.ErrRange, func(m *msg.Msg) { m.Path[0].Y = 1000001 })
		add(api.ErrRange, func(m *msg.Msg) { m.Path[len(m.Path)-1].X = -1000001 })
	}
	if hasCells(kind) {
		add(api.ErrMany, func(m *msg.Msg) { m.Cells = append([]int{1}, rising(32)...) })
		add(api.ErrRange, func(m *msg.Msg) { m.Cells[0] = -1 })
		add(api.ErrForm, func(m *msg.Msg) { m.Cells[1] = m.Cells[0] })
	}
	if hasText(kind) {
		add(api.ErrMany, func(m *msg.Msg) { m.Text += strings.Repeat("a", 64) })
		add(api.ErrText, func(m *msg.Msg) { m.Text = "\x7f" + m.Text[1:] })
	}
	if hasTag(kind) {
		add(api.ErrMany, func(m *msg.Msg) { m.Tag += strings.Repeat("a", 16) })
		add(api.ErrText, func(m *msg.Msg) { m.Tag = m.Tag[:1] + "\x1f" + m.Tag[2:] })
	}
	return out
}

// P17.1: what is no field and isn't 0, or empty, is told behind all fields.
func TestOthers(t *testing.T) {
	for _, k := range kinds {
		for _, m := range []msg.Msg{sample(k), ends(k, false), ends(k, true)} {
			for _, other := range others(k) {
				asked(t, with(m, other), api.ErrForm)
			}
			asked(t, with(m, others(k)...), api.ErrForm)
		}
		for _, f := range faults(k) {
			for _, other := range others(k) {
				asked(t, with(sample(k), f.do, other), f.e)
			}
			asked(t, with(sample(k), append(others(k), f.do)...), f.e)
		}
		if hasPath(k) {
			asked(t, with(sample(k), func(m *msg.Msg) { m.Path, m.Cells = nil, []int{1} }), api.ErrShort)
		}
		if hasCells(k) {
			asked(t, with(sample(k), func(m *msg.Msg) { m.Cells, m.Path = nil, []msg.Point{{}} }), api.ErrShort)
		}
	}
}

// P17.1: of two things that are wrong, and of all from one on, the first is told.
func TestOrder(t *testing.T) {
	for _, k := range kinds {
		l := faults(k)
		for i, f := range l {
			asked(t, with(sample(k), f.do), f.e)
			for _, g := range l[i+1:] {
				asked(t, with(sample(k), f.do, g.do), f.e)
			}
			var all []func(m *msg.Msg)
			for _, g := range l[i:] {
				all = append(all, g.do)
			}
			asked(t, with(sample(k), all...), f.e)
		}
	}
	none := with(sample(1), func(m *msg.Msg) { m.Path, m.Tag = nil, "\n" })
	asked(t, none, api.ErrShort)
	asked(t, with(none, func(m *msg.Msg) { m.N[2] = 0 }), api.ErrRange)
	asked(t, with(none, func(m *msg.Msg) { m.Path = make([]msg.Point, 17) }), api.ErrMany)
	asked(t, with(sample(3), func(m *msg.Msg) { m.Cells, m.N[2] = nil, 256 }), api.ErrRange)
}

// chance: a message of any kind, mostly near the bounds of what is right, made of a row that is the same at each run.
func chance(r *rand.Rand) msg.Msg {
	k := kinds[r.Intn(5)]
	m := []msg.Msg{sample(k), ends(k, false), ends(k, true)}[r.Intn(3)]
	for i, n := range numbers(k) {
		m.N[i] = n.least + r.Intn(n.most-n.least+1)
	}
	if hasPath(k) {
		m.Path = nil
		for range 1 + r.Intn(16) {
			m.Path = append(m.Path, msg.Point{X: r.Intn(2000001) - 1000000, Y: r.Intn(2000001) - 1000000})
		}
	}
	if hasCells(k) {
		m.Cells = nil
		for range 1 + r.Intn(32) {
			m.Cells = append(m.Cells, r.Intn(65536))
		}
		slices.Sort(m.Cells)
		m.Cells = slices.Compact(m.Cells)
	}
	line := func(most int) string {
		var b []byte
		for range r.Intn(most + 1) {
			b = append(b, byte(32+r.Intn(95)))
		}
		return string(b)
	}
	if hasText(k) {
		m.Text = line(64)
	}
	if hasTag(k) {
		m.Tag = line(16)
	}
	return m
}

// spoil: something of a message changes, which may make it wrong.
func spoil(r *rand.Rand, m *msg.Msg) {
	values := slices.Concat([]int{0, 1, -1, 16, 255, 256, 4096, 65535, 65536, 1000000, 1000001, -1000001}, far())
	v := values[r.Intn(len(values))]
	switch r.Intn(8) {
	case 0:
		m.Kind = v
	case 1, 2:
		m.N[r.Intn(6)] = v
	case 3:
		m.Path = make([]msg.Point, r.Intn(19))
	case 4:
		for i := range m.Path {
			if r.Intn(8) == 0 {
				m.Path[i] = msg.Point{X: v, Y: -v}
			}
		}
	case 5:
		m.Cells = rising(r.Intn(36))
	case 6:
		for i := range m.Cells {
			if r.Intn(8) == 0 {
				m.Cells[i] = v
			}
		}
	case 7:
		m.Text, m.Tag = m.Tag+string(rune(r.Intn(300))), m.Text
	}
}

// P17.1: many messages, of which most are right or nearly so, are as the words have them.
func TestChance(t *testing.T) {
	r := rand.New(rand.NewSource(17))
	told := map[api.Errno]int{}
	for range 20000 {
		m := chance(r)
		asked(t, m, api.OK)
		m = with(m)
		for range 1 + r.Intn(3) {
			spoil(r, &m)
		}
		e := wrong(m)
		asked(t, m, e)
		told[e]++
	}
	for _, e := range []api.Errno{api.OK, api.ErrForm, api.ErrRange, api.ErrMany, api.ErrKind, api.ErrShort, api.ErrText} {
		if told[e] < 50 {
			t.Errorf("%d was told but %d times", e, told[e])
		}
	}
}

// P17.2: in version 1 each field since version 2 is as it is absent; all else stays. Each written out.
func TestProject(t *testing.T) {
	for _, want := range []msg.Msg{
		{Kind: 1, N: [6]int{7, 100, 500}, Path: []msg.Point{{X: 1, Y: -2}, {X: 1000000, Y: -1000000}, {X: 0, Y: 5}}},
		{Kind: 2, N: [6]int{300, 2, 0}},
		{Kind: 3, N: [6]int{8, 12, 1}, Cells: []int{0, 5, 65535}},
		{Kind: 4, N: [6]int{9, -5, 6, 18000, 900, 100}},
		{Kind: 5, N: [6]int{10, 404, 3, 0, 1}, Text: "lost ~ way"},
	} {
		m := sample(want.Kind)
		if p := msg.Project(m, 1); told(p) != told(want) {
			t.Errorf("Project(%s, 1): %s", told(m), told(p))
		}
		if told(m) != told(sample(want.Kind)) {
			t.Errorf("Project left %s", told(m))
		}
	}
	hold := msg.Msg{Kind: 2, N: [6]int{1, 2, 7}}
	if p := msg.Project(hold, 1); p.N != [6]int{1, 2, 0} {
		t.Error("a Hold with zone 7", p)
	}
}

// P17.2: the least and the greatest of each field since version 2 are projected, too, each by itself.
func TestProjectEach(t *testing.T) {
	for _, k := range kinds {
		for i, n := range numbers(k) {
			for _, v := range slices.Concat([]int{n.least, n.most, n.absent, 0, n.most + 1}, far()) {
				m := with(msg.New(k), func(m *msg.Msg) { m.N[i] = v })
				want := with(m, func(m *msg.Msg) {
					if n.since == 2 {
						m.N[i] = n.absent
					}
				})
				if p := msg.Project(m, 1); told(p) != told(want) {
					t.Errorf("Project(%s, 1): %s", told(m), told(p))
				}
			}
		}
	}
}

// P17.2: of wrong messages the same fields change, no others; what is no field of the kind stays, a tag also.
func TestProjectWrong(t *testing.T) {
	for _, m := range every() {
		want := with(m)
		for i, n := range numbers(m.Kind) {
			if n.since == 2 {
				want.N[i] = n.absent
			}
		}
		if hasTag(m.Kind) {
			want.Tag = ""
		}
		if p := msg.Project(m, 1); told(p) != told(want) {
			t.Errorf("Project(%s, 1): %s, not %s", told(m), told(p), told(want))
		}
	}
}

// P17.2: of other versions it is a copy.
func TestProjectOther(t *testing.T) {
	for _, m := range every() {
		for _, v := range otherVersions() {
			if p := msg.Project(m, v); told(p) != told(m) {
				t.Errorf("Project(%s, %d): %s", told(m), v, told(p))
			}
		}
	}
}

// P17.2: a new message of each kind, each written out; and the zero message of no kind.
func TestNew(t *testing.T) {
	for _, want := range []msg.Msg{
		{Kind: 1, N: [6]int{0, 1, 500}, Path: []msg.Point{{X: 0, Y: 0}}},
		{Kind: 2, N: [6]int{0, 0, 0}},
		{Kind: 3, N: [6]int{0, 0, 1}, Cells: []int{0}},
		{Kind: 4, N: [6]int{0, 0, 0, 0, 0, 100}},
		{Kind: 5, N: [6]int{0, 1, 0, 0, 1}},
	} {
		m := msg.New(want.Kind)
		if told(m) != told(want) {
			t.Errorf("New(%d): %s", want.Kind, told(m))
		}
		for i, n := range numbers(want.Kind) {
			if m.N[i] != n.fresh {
				t.Errorf("New(%d): %s is %d", want.Kind, n.name, m.N[i])
			}
		}
	}
	for _, k := range wrongKinds() {
		if m := msg.New(k); told(m) != told(msg.Msg{}) {
			t.Errorf("New(%d): %s", k, told(m))
		}
	}
}

// changes: ways in which a message may be unlike another one in just one place, each of which changes it.
func changes(m msg.Msg) []func(m *msg.Msg) {
	out := []func(m *msg.Msg){
		func(m *msg.Msg) { m.Kind++ },
		func(m *msg.Msg) { m.Kind ^= math.MinInt },
		func(m *msg.Msg) { m.Path = append(m.Path, msg.Point{}) },
		func(m *msg.Msg) { m.Cells = append(m.Cells, 0) },
		func(m *msg.Msg) { m.Path = append([]msg.Point{{X: 3}}, m.Path...) },
		func(m *msg.Msg) { m.Cells = append([]int{3}, m.Cells...) },
		func(m *msg.Msg) { m.Text += "x" },
		func(m *msg.Msg) { m.Tag += "x" },
		func(m *msg.Msg) { m.Text += "\x00" },
		func(m *msg.Msg) { m.Tag += " " },
		func(m *msg.Msg) { m.Text = "_" + m.Text },
		func(m *msg.Msg) { m.Tag = "_" + m.Tag },
	}
	for i := range m.N {
		out = append(out, func(m *msg.Msg) { m.N[i]++ }, func(m *msg.Msg) { m.N[i] += 1 << 32 })
	}
	for i := range m.Path {
		out = append(out, func(m *msg.Msg) { m.Path[i].X++ }, func(m *msg.Msg) { m.Path[i].Y++ }, func(m *msg.Msg) { m.Path = slices.Delete(m.Path, i, i+1) })
	}
	for i := range m.Cells {
		out = append(out, func(m *msg.Msg) { m.Cells[i]++ }, func(m *msg.Msg) { m.Cells = slices.Delete(m.Cells, i, i+1) })
	}
	for i := range len(m.Text) {
		out = append(out, func(m *msg.Msg) { m.Text = m.Text[:i] + "^" + m.Text[i+1:] })
	}
	for i := range len(m.Tag) {
		out = append(out, func(m *msg.Msg) { m.Tag = m.Tag[:i] + "^" + m.Tag[i+1:] })
	}
	return out
}

// P17.3: messages are the same just where nothing of them is unlike.
func TestSame(t *testing.T) {
	l := every()
	for i, a := range l {
		for j, b := range l {
			if is := msg.Same(a, b); is != (told(a) == told(b)) {
				t.Errorf("Same of %d and %d, %s and %s: %v", i, j, told(a), told(b), is)
			}
		}
		if !msg.Same(a, with(a)) || !msg.Same(a, a) {
			t.Errorf("%s isn't the same as itself", told(a))
		}
		for j, change := range changes(a) {
			b := with(a, change)
			if told(a) == told(b) {
				t.Fatalf("change %d of %s is none", j, told(a))
			}
			if msg.Same(a, b) || msg.Same(b, a) {
				t.Errorf("%s is the same as %s", told(a), told(b))
			}
		}
	}
}

// P17.3: no list and an empty one are the same; what is behind a list's end doesn't count; what stands in the other's place does.
func TestSameLists(t *testing.T) {
	none := msg.Msg{Kind: 2}
	for _, m := range []msg.Msg{{Kind: 2, Path: []msg.Point{}}, {Kind: 2, Cells: []int{}}, {Kind: 2, Path: make([]msg.Point, 0, 3), Cells: make([]int, 0, 3)}} {
		if !msg.Same(m, none) || !msg.Same(none, m) || !msg.Same(m, m) {
			t.Errorf("%#v isn't the same as without lists", m)
		}
	}
	a := msg.Msg{Kind: 2, Path: []msg.Point{{X: 1}, {X: 2}}[:1], Cells: []int{1, 2}[:1]}
	b := msg.Msg{Kind: 2, Path: []msg.Point{{X: 1}, {X: 3}}[:1], Cells: []int{1, 3}[:1]}
	if !msg.Same(a, b) {
		t.Error("what is behind the end")
	}
	for _, x := range [][2]msg.Msg{
		{{Text: "a"}, {Tag: "a"}},
		{{Text: "a", Tag: "b"}, {Text: "b", Tag: "a"}},
		{{Text: "ab"}, {Text: "a", Tag: "b"}},
		{{Path: []msg.Point{{X: 1, Y: 2}}}, {Path: []msg.Point{{X: 2, Y: 1}}}},
		{{Path: []msg.Point{{X: 1}, {X: 2}}}, {Path: []msg.Point{{X: 2}, {X: 1}}}},
		{{Cells: []int{1, 2}}, {Cells: []int{2, 1}}},
		{{N: [6]int{1}}, {N: [6]int{0, 1}}},
		{{Text: "a"}, {Text: "A"}},
		{{Text: "\u00e9"}, {Text: "e\u0301"}},
		{{Text: "\xff"}, {Text: "\xfe"}},
	} {
		if msg.Same(x[0], x[1]) || msg.Same(x[1], x[0]) {
			t.Errorf("%s is the same as %s", told(x[0]), told(x[1]))
		}
	}
}

// texts that may be asked for by Get and Set: all kinds' names, and what is no name.
func asking() []string {
	out := []string{
		"", " ", "0", "1", "-1", "path", "cells", "text", "tag", "kind", "n", "hold", "Robot", "ROBOT", "rObot", "robot ", " robot", "robo", "obot", "robots", "robot\x00", "rob\u00f6t",
		"X", "Y", "xy", "x ", "z", "Zone", "ZONE", "robot speed", strings.Repeat("robot", 1000),
	}
	for _, k := range kinds {
		for _, n := range numbers(k) {
			out = append(out, n.name, strings.ToUpper(n.name), n.name+"s", n.name+n.name)
		}
	}
	return out
}

// placed: the place of a kind's number of that name, or -1.
func placed(kind int, name string) int {
	return slices.IndexFunc(numbers(kind), func(n number) bool { return n.name == name })
}

// P17.3: Get of each name: those of the kind's numbers, of right messages and wrong ones; 0 and false of others.
func TestGet(t *testing.T) {
	for _, m := range every() {
		for _, name := range asking() {
			want, i := 0, placed(m.Kind, name)
			if i >= 0 {
				want = m.N[i]
			}
			if v, ok := msg.Get(m, name); v != want || ok != (i >= 0) {
				t.Errorf("Get(%s, %q): %d, %v, not %d", told(m), name, v, ok, want)
			}
		}
	}
	if v, ok := msg.Get(sample(4), "x"); v != -5 || !ok {
		t.Error("x of", told(sample(4)), v, ok)
	}
	if v, ok := msg.Get(sample(2), "x"); v != 0 || ok {
		t.Error("x of", told(sample(2)), v, ok)
	}
}

// P17.3: Set changes that number of a copy alone, to whatever; of others there is a copy, and false.
func TestSet(t *testing.T) {
	for _, m := range every() {
		before := told(m)
		for _, name := range asking() {
			i := placed(m.Kind, name)
			for _, v := range []int{0, 1, 77, -3, 65536, 1 << 32, math.MinInt, math.MaxInt} {
				want := with(m, func(m *msg.Msg) {
					if i >= 0 {
						m.N[i] = v
					}
				})
				s, ok := msg.Set(m, name, v)
				if told(s) != told(want) || ok != (i >= 0) {
					t.Fatalf("Set(%s, %q, %d): %s, %v", before, name, v, told(s), ok)
				}
				if got, is := msg.Get(s, name); is != ok || ok && got != v {
					t.Fatalf("Get behind Set(%s, %q, %d): %d, %v", before, name, v, got, is)
				}
			}
			if told(m) != before {
				t.Fatalf("Set(%s, %q) left %s", before, name, told(m))
			}
		}
	}
	for _, k := range kinds { // it may be left wrong
		for _, n := range numbers(k) {
			for v, want := range map[int]api.Errno{n.least: api.OK, n.most: api.OK, n.least - 1: api.ErrRange, n.most + 1: api.ErrRange} {
				if s, ok := msg.Set(sample(k), n.name, v); !ok || msg.Check(s) != want {
					t.Errorf("Set(%d, %q, %d): %s, %v", k, n.name, v, told(s), ok)
				}
			}
		}
	}
}

// row: what Numbers should give of a message.
func row(m msg.Msg) []pair {
	var out []pair
	for i, n := range numbers(m.Kind) {
		out = append(out, pair{n.name, m.N[i]})
	}
	return out
}

// upTo: what a ranging gives, up to most of them.
func upTo(s iter.Seq2[string, int], most int) []pair {
	var out []pair
	for name, v := range s {
		if out = append(out, pair{name, v}); len(out) == most {
			break
		}
	}
	return out
}

// P17.3: Numbers gives each number that is a field, in order, of right messages and wrong ones, whatever their version; it may be left at each, gives them anew, also within another one.
func TestNumbers(t *testing.T) {
	if l := upTo(msg.Numbers(sample(4)), -1); !slices.Equal(l, []pair{{"robot", 9}, {"x", -5}, {"y", 6}, {"heading", 18000}, {"battery", 900}, {"sure", 55}}) {
		t.Error("numbers of", told(sample(4)), l)
	}
	for _, m := range every() {
		s, want := msg.Numbers(m), row(m)
		if s == nil {
			t.Fatalf("Numbers(%s) is nil", told(m))
		}
		for n := 1; n <= len(want)+1; n++ {
			if l := upTo(s, n); !slices.Equal(l, want[:min(n, len(want))]) {
				t.Errorf("Numbers(%s), left at %d: %v", told(m), n, l)
			}
			if l := upTo(s, -1); !slices.Equal(l, want) {
				t.Errorf("Numbers(%s), ranged over again: %v", told(m), l)
			}
		}
		var outer []pair
		for name, v := range s {
			outer = append(outer, pair{name, v})
			n := len(outer)
			if l := upTo(s, n); !slices.Equal(l, want[:n]) {
				t.Errorf("Numbers(%s), within at %d: %v", told(m), n, l)
			}
			if l := upTo(s, -1); !slices.Equal(l, want) {
				t.Errorf("Numbers(%s), within: %v", told(m), l)
			}
		}
		if !slices.Equal(outer, want) {
			t.Errorf("Numbers(%s), with others within: %v", told(m), outer)
		}
	}
}

// P17.3: Numbers are those of the message as it was handed in, whatever is written to it later, also within a ranging.
func TestNumbersKept(t *testing.T) {
	for _, k := range kinds {
		m := sample(k)
		s, want := msg.Numbers(m), row(m)
		m.Kind, m.N = 6-k, [6]int{1, 1, 1, 1, 1, 1}
		clear(m.Path)
		var l []pair
		for name, v := range s {
			l = append(l, pair{name, v})
			m.N[len(l)-1] = 99
		}
		if !slices.Equal(l, want) {
			t.Errorf("Numbers of %d, written to: %v", k, l)
		}
	}
}

// P17.3: Copy is the same, of right messages and wrong ones.
func TestCopy(t *testing.T) {
	for _, m := range every() {
		before := told(m)
		if c := msg.Copy(m); told(c) != before || !msg.Same(c, m) {
			t.Errorf("Copy(%s): %s", before, told(c))
		}
		if told(m) != before {
			t.Errorf("Copy of %s left %s", before, told(m))
		}
	}
}

// answers: what each call that gives messages gives of one.
func answers() map[string]func(m msg.Msg) msg.Msg {
	set := func(name string) func(m msg.Msg) msg.Msg {
		return func(m msg.Msg) msg.Msg { s, _ := msg.Set(m, name, 5); return s }
	}
	return map[string]func(m msg.Msg) msg.Msg{
		"Copy":         msg.Copy,
		"Set robot":    set("robot"),
		"Set path":     set("path"),
		"Set nothing":  set(""),
		"Project to 0": func(m msg.Msg) msg.Msg { return msg.Project(m, 0) },
		"Project to 1": func(m msg.Msg) msg.Msg { return msg.Project(m, 1) },
		"Project to 2": func(m msg.Msg) msg.Msg { return msg.Project(m, 2) },
	}
}

// roomy: a message whose lists have room behind their ends, with what stands in all of it.
func roomy(m msg.Msg) (msg.Msg, []msg.Point, []int) {
	path, cells := make([]msg.Point, len(m.Path)+5), make([]int, len(m.Cells)+5)
	for i := range path {
		path[i] = msg.Point{X: 70 + i, Y: 80 + i}
	}
	for i := range cells {
		cells[i] = 90 + i
	}
	copy(path, m.Path)
	copy(cells, m.Cells)
	m.Path, m.Cells = path[:len(m.Path)], cells[:len(m.Cells)]
	return m, path, cells
}

// fill: what a message's lists have, and what is behind their ends, is written to.
func fill(m msg.Msg) {
	path, cells := m.Path[:cap(m.Path)], m.Cells[:cap(m.Cells)]
	for i := range path {
		path[i] = msg.Point{X: -99, Y: -99}
	}
	for i := range cells {
		cells[i] = -99
	}
	_ = append(m.Path, msg.Point{X: -98})
	_ = append(m.Cells, -98)
}

// P17.2, P17.3: what is given is new memory: it shares none with what was handed in, its spare room neither, and none with another answer.
func TestMemory(t *testing.T) {
	for name, answer := range answers() {
		for _, from := range every() {
			m, path, cells := roomy(from)
			wantPath, wantCells := slices.Clone(path), slices.Clone(cells)
			a, b := answer(m), answer(m)
			want := told(a)
			fill(a)
			if told(b) != want {
				t.Errorf("%s of %s shares with another: %s", name, told(from), told(b))
			}
			if !slices.Equal(path, wantPath) || !slices.Equal(cells, wantCells) || told(m) != told(from) {
				t.Errorf("%s of %s shares with it: %v, %v", name, told(from), path, cells)
			}
			fill(m)
			if told(b) != want {
				t.Errorf("%s of %s shares with what was handed in: %s", name, told(from), told(b))
			}
		}
	}
	for _, k := range slices.Concat(kinds, []int{0, 6}) {
		a, b := msg.New(k), msg.New(k)
		want := told(a)
		fill(a)
		if told(b) != want || told(msg.New(k)) != want {
			t.Errorf("New(%d) shares: %s, %s", k, told(b), told(msg.New(k)))
		}
	}
}

// P17.1, P17.3: Check, Same, Get and Numbers leave what they are handed, and what is behind its lists' ends.
func TestUnchanged(t *testing.T) {
	for _, from := range every() {
		m, path, cells := roomy(from)
		wantPath, wantCells := slices.Clone(path), slices.Clone(cells)
		msg.Check(m)
		msg.Same(m, m)
		msg.Get(m, "robot")
		for range msg.Numbers(m) {
			msg.Check(m)
		}
		if !slices.Equal(path, wantPath) || !slices.Equal(cells, wantCells) || told(m) != told(from) {
			t.Errorf("%s was left as %v, %v", told(from), path, cells)
		}
	}
}

// P17.4: new messages are right in both versions; so are right ones, projected, and they are what they are when projected again.
func TestFollows(t *testing.T) {
	r := rand.New(rand.NewSource(4))
	var l []msg.Msg
	for _, k := range kinds {
		m := msg.New(k)
		if e := msg.Check(m); e != api.OK {
			t.Errorf("New(%d): %d", k, e)
		}
		if !msg.Same(msg.Project(m, 1), m) || !msg.Same(msg.Project(m, 2), m) {
			t.Errorf("New(%d), projected: %s, %s", k, told(msg.Project(m, 1)), told(msg.Project(m, 2)))
		}
		l = append(l, m, sample(k), ends(k, false), ends(k, true))
	}
	for range 5000 {
		l = append(l, chance(r))
	}
	for _, m := range l {
		for _, v := range append(otherVersions(), 1) {
			if e := msg.Check(msg.Project(m, v)); e != api.OK {
				t.Errorf("Project(%s, %d): %d", told(m), v, e)
			}
		}
	}
	for _, m := range slices.Concat(l, odd()) { // of wrong ones, too
		for _, v := range []int{1, 2, 0, 3} {
			once := msg.Project(m, v)
			if twice := msg.Project(once, v); !msg.Same(twice, once) || told(twice) != told(once) {
				t.Errorf("Project(%s, %d), twice: %s", told(m), v, told(twice))
			}
		}
		one := msg.Project(m, 1)
		if a, b := msg.Project(one, 2), msg.Project(msg.Project(m, 2), 1); !msg.Same(a, one) || !msg.Same(b, one) {
			t.Errorf("Project(%s), by 2: %s, %s", told(m), told(a), told(b))
		}
	}
}
