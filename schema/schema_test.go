package schema_test

import (
	"bytes"
	"encoding/binary"
	"fmt"
	"iter"
	"math"
	"math/rand"
	"slices"
	"strings"
	"testing"

	"cuneiform/api"
	"cuneiform/body"
	"cuneiform/msg"
	"cuneiform/schema"
)

// number: a field that is a number, as the words of chapter 16 have it.
type number struct {
	name        string
	least, most int
	since       int
	absent      int // in version 1, where it is since version 2
	signed      bool
}

// kinds: all there are.
var kinds = []int{1, 2, 3, 4, 5}

// versions: all there are.
var versions = []int{1, 2}

// numbers: a kind's, in order, each written out.
func numbers(kind int) []number {
	robot := number{"robot", 0, 65535, 1, 0, false}
	return map[int][]number{
		1: {robot, {"speed", 1, 5000, 1, 0, false}, {"accel", 1, 10000, 2, 500, false}},
		2: {robot, {"reason", 0, 15, 1, 0, false}, {"zone", 0, 4095, 2, 0, false}},
		3: {robot, {"zone", 0, 4095, 1, 0, false}, {"lease", 1, 255, 2, 1, false}},
		4: {
			robot, {"x", -1000000, 1000000, 1, 0, true}, {"y", -1000000, 1000000, 1, 0, true},
			{"heading", 0, 35999, 1, 0, false}, {"battery", 0, 1000, 1, 0, false}, {"sure", 0, 100, 2, 100, false},
		},
		5: {
			robot, {"code", 1, 9999, 1, 0, false}, {"severity", 0, 4, 1, 0, false},
			{"part", 0, 255, 2, 0, false}, {"times", 1, 1000000, 2, 1, false},
		},
	}[kind]
}

// What a kind has beside its numbers.
func hasPath(kind int) bool  { return kind == 1 }
func hasCells(kind int) bool { return kind == 3 }
func hasText(kind int) bool  { return kind == 5 }
func hasTag(kind int) bool   { return kind == 1 } // since version 2

// sample: a right message of each kind, which has no field that is as it is in version 1.
func sample(kind int) msg.Msg {
	return map[int]msg.Msg{
		1: {Kind: 1, N: [6]int{7, 100, 300}, Path: []msg.Point{{X: 1, Y: -2}, {X: 1000000, Y: -1000000}, {X: 0, Y: 5}}, Tag: "a b"},
		2: {Kind: 2, N: [6]int{300, 2, 9}},
		3: {Kind: 3, N: [6]int{8, 12, 30}, Cells: []int{0, 5, 6, 65535}},
		4: {Kind: 4, N: [6]int{9, -5, 6, 18000, 900, 55}},
		5: {Kind: 5, N: [6]int{10, 404, 3, 17, 22}, Text: "lost ~ way"},
	}[kind]
}

// ends: a right message whose numbers are the least, or the greatest, and that has the least, or the most, of all else.
func ends(kind int, most bool) msg.Msg {
	m := msg.Msg{Kind: kind}
	size := func(least, greatest int) int {
		if most {
			return greatest
		}
		return least
	}
	for i, n := range numbers(kind) {
		m.N[i] = size(n.least, n.most)
	}
	if hasPath(kind) {
		for i := range size(1, 16) {
			m.Path = append(m.Path, msg.Point{X: 1000000 - 2000000*(i%2), Y: -1000000 + 2000000*(i%2)})
		}
		m.Tag = strings.Repeat("~", size(0, 16))
	}
	if hasCells(kind) {
		m.Cells = rising(size(1, 32))
	}
	if hasText(kind) {
		m.Text = strings.Repeat(" ", size(0, 64))
	}
	return m
}

// rising: so many cells, each further from the one ahead; up to 32 of them may be.
func rising(n int) []int {
	l := []int{}
	for i := range n {
		l = append(l, i*i*64)
	}
	return l
}

// right: messages that are.
func right() []msg.Msg {
	var out []msg.Msg
	for _, k := range kinds {
		for _, m := range []msg.Msg{sample(k), ends(k, false), ends(k, true), msg.New(k)} {
			out = append(out, m, projected(m, 1))
		}
	}
	return out
}

// with: a message, changed; the one that is handed in stays.
func with(m msg.Msg, changes ...func(m *msg.Msg)) msg.Msg {
	m.Path, m.Cells = slices.Clone(m.Path), slices.Clone(m.Cells)
	for _, change := range changes {
		change(&m)
	}
	return m
}

// told: a message as a text, so that two texts are one just where the messages are; nil and empty lists are one in it.
func told(m msg.Msg) string {
	return fmt.Sprintf("%d %v %d%v %d%v %q %q", m.Kind, m.N, len(m.Path), m.Path, len(m.Cells), m.Cells, m.Text, m.Tag)
}

// wrongKinds: numbers that are no kind's: next to those, far off, and some that are within but for what a byte or 32 bits can't hold.
func wrongKinds() []int {
	return []int{
		0, 6, 7, -1, -2, -5, 100, 255, 256, 257, 261, -255, -251, 1<<31 - 1, 1 << 31, 1<<32 + 1, 1<<32 + 5, -1<<32 + 1,
		math.MinInt, math.MinInt + 1, math.MinInt + 5, math.MaxInt - 1, math.MaxInt,
	}
}

// wrongVersions: numbers that are no version's, so.
func wrongVersions() []int {
	return []int{
		0, 3, 4, -1, -2, 255, 256, 257, 258, -254, -255, 1<<31 - 1, 1<<31 + 1, 1<<32 + 1, 1<<32 + 2, -1<<32 + 1, -1<<32 + 2,
		math.MinInt, math.MinInt + 1, math.MinInt + 2, math.MaxInt - 1, math.MaxInt,
	}
}

// bodyOf: a right message's body in a version, by the words of chapter 18.
func bodyOf(m msg.Msg, version int) []byte {
	var b []byte
	for i, n := range numbers(m.Kind) {
		switch {
		case n.since > version:
		case n.signed:
			b = binary.AppendVarint(b, int64(m.N[i]))
		default:
			b = binary.AppendUvarint(b, uint64(m.N[i]))
		}
	}
	if hasPath(m.Kind) {
		b = binary.AppendUvarint(b, uint64(len(m.Path)))
		var ahead msg.Point
		for _, p := range m.Path {
			b = binary.AppendVarint(binary.AppendVarint(b, int64(p.X-ahead.X)), int64(p.Y-ahead.Y))
			ahead = p
		}
	}
	if hasCells(m.Kind) {
		b = binary.AppendUvarint(b, uint64(len(m.Cells)))
		ahead := -1
		for _, c := range m.Cells {
			b = binary.AppendUvarint(b, uint64(c-ahead-1))
			ahead = c
		}
	}
	if hasText(m.Kind) {
		b = append(append(b, byte(len(m.Text))), m.Text...)
	}
	if hasTag(m.Kind) && version == 2 {
		b = append(append(b, byte(len(m.Tag))), m.Tag...)
	}
	return b
}

// projected: a right message as a version tells it, by the words of chapter 17.
func projected(m msg.Msg, version int) msg.Msg {
	return with(m, func(m *msg.Msg) {
		if version != 1 {
			return
		}
		for i, n := range numbers(m.Kind) {
			if n.since == 2 {
				m.N[i] = n.absent
			}
		}
		m.Tag = "" // a right message has one only where it is a field
	})
}

// lost: the names of what a version doesn't tell of a right message, by the words.
func lost(m msg.Msg, version int) []string {
	var l []string
	if version != 1 {
		return nil
	}
	for i, n := range numbers(m.Kind) {
		if n.since == 2 && m.N[i] != n.absent {
			l = append(l, n.name)
		}
	}
	if m.Tag != "" {
		l = append(l, "tag")
	}
	return l
}

// of: the schema of a version.
func of(t *testing.T, version int) *schema.Schema {
	t.Helper()
	s, e := schema.New(version)
	if s == nil || e != api.OK {
		t.Fatalf("New(%d): %v, %d", version, s, e)
	}
	return s
}

// upTo: what a ranging gives, up to most of them.
func upTo[T any](s iter.Seq[T], most int) []T {
	var out []T
	for x := range s {
		if out = append(out, x); len(out) == most {
			break
		}
	}
	return out
}

// gives: that a function gives just this, left at each place, ranged over again and within itself.
func gives[T comparable](t *testing.T, name string, s iter.Seq[T], want []T) {
	t.Helper()
	if s == nil {
		t.Fatal(name, "is nil")
	}
	for n := 1; n <= len(want)+1; n++ {
		if l := upTo(s, n); !slices.Equal(l, want[:min(n, len(want))]) {
			t.Errorf("%s, left at %d: %v", name, n, l)
		}
		if l := upTo(s, -1); !slices.Equal(l, want) {
			t.Errorf("%s, ranged over again: %v, not %v", name, l, want)
		}
	}
	var outer []T
	for x := range s {
		outer = append(outer, x)
		if l := upTo(s, len(outer)); !slices.Equal(l, want[:min(len(outer), len(want))]) {
			t.Errorf("%s, within at %d: %v", name, len(outer), l)
		}
		if l := upTo(s, -1); !slices.Equal(l, want) {
			t.Errorf("%s, within: %v", name, l)
		}
	}
	if !slices.Equal(outer, want) {
		t.Errorf("%s, with others within: %v", name, outer)
	}
}

// packs: that a schema of a version packs a right message as these bytes, and unpacks them as its projection.
func packs(t *testing.T, m msg.Msg, version int, want []byte) {
	t.Helper()
	s, before := of(t, version), told(m)
	kind, b, e := s.Pack(m)
	if kind != m.Kind || e != api.OK || !bytes.Equal(b, want) {
		t.Errorf("Pack(%s) in %d: %d, %v, %d, not %v", before, version, kind, b, e, want)
	}
	if b, e := body.Encode(m, version); e != api.OK || !bytes.Equal(b, want) {
		t.Errorf("Encode(%s, %d): %v, %d, not %v", before, version, b, e, want)
	}
	kept := slices.Clone(want)
	x, e := s.Unpack(m.Kind, want)
	if e != api.OK || told(x) != told(projected(m, version)) {
		t.Errorf("Unpack(%d, %v) in %d: %s, %d, not the Project of %s", m.Kind, want, version, told(x), e, before)
	}
	if fits := told(projected(m, version)) == before; s.Fits(m) != fits {
		t.Errorf("Fits(%s) in %d isn't %v", before, version, fits)
	}
	if s.Version() != version {
		t.Errorf("Version() in %d: %d", version, s.Version())
	}
	if told(m) != before || !bytes.Equal(want, kept) {
		t.Errorf("%s and %v were left as %s and %v", before, kept, told(m), want)
	}
}

// turns: that a body is turned to just these bytes, and whether it is whole.
func turns(t *testing.T, kind, from, to int, b, want []byte, whole bool) {
	t.Helper()
	kept := slices.Clone(b)
	out, w, e := schema.Turn(kind, from, to, b)
	if e != api.OK || !bytes.Equal(out, want) || w != whole {
		t.Errorf("Turn(%d, %d, %d, %v): %v, %v, %d, not %v, %v", kind, from, to, kept, out, w, e, want, whole)
	}
	a, _ := body.Decode(kind, from, b)
	x, e := body.Decode(kind, to, out)
	if e != api.OK || msg.Same(a, x) != whole {
		t.Errorf("Turn(%d, %d, %d, %v) gave what is decoded as %s, %d", kind, from, to, kept, told(x), e)
	}
	if !bytes.Equal(b, kept) {
		t.Errorf("Turn(%d, %d, %d, %v) left %v", kind, from, to, kept, b)
	}
}

// holds: that a right message is as the words have it, in each call.
func holds(t *testing.T, m msg.Msg) {
	t.Helper()
	before := told(m)
	for _, v := range versions {
		packs(t, m, v, bodyOf(m, v))
		for _, to := range versions {
			p := projected(m, v) // which is what the body tells
			turns(t, m.Kind, v, to, bodyOf(m, v), bodyOf(p, to), told(projected(p, to)) == told(p))
		}
		gives(t, fmt.Sprintf("Lost(%s, %d)", before, v), schema.Lost(m, v), lost(m, v))
	}
	best := 2
	if told(projected(m, 1)) == before {
		best = 1
	}
	if v, e := schema.Best(m); v != best || e != api.OK {
		t.Errorf("Best(%s): %d, %d, not %d", before, v, e, best)
	}
	if told(m) != before {
		t.Errorf("%s was left as %s", before, told(m))
	}
}

// refuses: that a message isn't right, for this reason, in each call.
func refuses(t *testing.T, m msg.Msg, want api.Errno) {
	t.Helper()
	before := told(m)
	if e := msg.Check(m); e != want {
		t.Fatalf("Check(%s): %d, not %d", before, e, want)
	}
	for _, v := range versions {
		s := of(t, v)
		if kind, b, e := s.Pack(m); kind != 0 || len(b) != 0 || e != want {
			t.Errorf("Pack(%s) in %d: %d, %v, %d, not %d", before, v, kind, b, e, want)
		}
		if s.Fits(m) {
			t.Errorf("Fits(%s) in %d", before, v)
		}
	}
	if v, e := schema.Best(m); v != 0 || e != want {
		t.Errorf("Best(%s): %d, %d, not %d", before, v, e, want)
	}
	for _, v := range slices.Concat(versions, wrongVersions()) {
		gives(t, fmt.Sprintf("Lost(%s, %d)", before, v), schema.Lost(m, v), nil)
	}
	if told(m) != before {
		t.Errorf("%s was left as %s", before, told(m))
	}
}

// spoiled: that bytes are no body of a kind in a version, for this reason, whatever they are turned to; versions that are none are told ahead of it.
func spoiled(t *testing.T, kind, version int, b []byte, want api.Errno) {
	t.Helper()
	kept := slices.Clone(b)
	if _, e := body.Decode(kind, version, b); e != want {
		t.Fatalf("Decode(%d, %d, %v): %d, not %d", kind, version, b, e, want)
	}
	if m, e := of(t, version).Unpack(kind, b); told(m) != told(msg.Msg{}) || e != want {
		t.Errorf("Unpack(%d, %v) in %d: %s, %d, not %d", kind, kept, version, told(m), e, want)
	}
	for _, to := range versions {
		fails(t, kind, version, to, b, want)
	}
	for _, to := range []int{0, 3, -1, math.MinInt, math.MaxInt} {
		fails(t, kind, version, to, b, api.ErrVersion)
		fails(t, kind, to, version, b, api.ErrVersion)
	}
	if !bytes.Equal(b, kept) {
		t.Errorf("%v was left as %v", kept, b)
	}
}

// fails: that bytes aren't turned, for this reason.
func fails(t *testing.T, kind, from, to int, b []byte, want api.Errno) {
	t.Helper()
	if out, whole, e := schema.Turn(kind, from, to, b); len(out) != 0 || whole || e != want {
		t.Errorf("Turn(%d, %d, %d, %v): %v, %v, %d, not %d", kind, from, to, b, out, whole, e, want)
	}
}

// P19.1: schemas of 1 and 2, each new, and none of other versions.
func TestNew(t *testing.T) {
	for _, v := range versions {
		a, b := of(t, v), of(t, v)
		if a == b {
			t.Errorf("New(%d) gave one schema twice", v)
		}
		if a.Version() != v || b.Version() != v {
			t.Errorf("New(%d): %d, %d", v, a.Version(), b.Version())
		}
	}
	for _, v := range wrongVersions() {
		if s, e := schema.New(v); s != nil || e != api.ErrVersion {
			t.Errorf("New(%d): %v, %d", v, s, e)
		}
	}
	one, two := of(t, 1), of(t, 2) // one isn't changed by what another does
	one.Pack(sample(2))
	two.Pack(sample(2))
	one.Unpack(9, nil)
	if one.Version() != 1 || two.Version() != 2 {
		t.Error("versions have become", one.Version(), two.Version())
	}
}

// P19.1: Versions gives 1, 2.
func TestVersions(t *testing.T) {
	gives(t, "Versions()", schema.Versions(), []int{1, 2})
}

// P19.1, P19.2: the chapter's example, and bodies of each kind, each written out.
func TestExamples(t *testing.T) {
	bare, hold := msg.Msg{Kind: 2, N: [6]int{300, 2, 0}}, msg.Msg{Kind: 2, N: [6]int{300, 2, 9}}
	if v, e := schema.Best(bare); v != 1 || e != api.OK {
		t.Error("a Hold with zone 0:", v, e)
	}
	if v, e := schema.Best(hold); v != 2 || e != api.OK {
		t.Error("a Hold with zone 9:", v, e)
	}
	gives(t, "Lost of a Hold with zone 9", schema.Lost(hold, 1), []string{"zone"})
	gives(t, "Lost of a Hold with zone 0", schema.Lost(bare, 1), nil)
	packs(t, hold, 1, []byte{172, 2, 2})
	packs(t, hold, 2, []byte{172, 2, 2, 9})
	turns(t, 2, 2, 1, []byte{172, 2, 2, 9}, []byte{172, 2, 2}, false)
	turns(t, 2, 2, 1, []byte{172, 2, 2, 0}, []byte{172, 2, 2}, true)
	turns(t, 2, 1, 2, []byte{172, 2, 2}, []byte{172, 2, 2, 0}, true)
	for _, x := range []struct {
		kind          int
		old, new, was string // was is what the old one is in version 2
		lost          string
	}{
		{1, "\x05\x06\x01\x02\x04", "\x05\x06\x07\x01\x02\x04\x01z", "\x05\x06\xf4\x03\x01\x02\x04\x00", "accel tag"},
		{2, "\x05\x06", "\x05\x06\x07", "\x05\x06\x00", "zone"},
		{3, "\x05\x06\x01\x08", "\x05\x06\x07\x01\x08", "\x05\x06\x01\x01\x08", "lease"},
		{4, "\x05\x01\x03\x07\x08", "\x05\x01\x03\x07\x08\x09", "\x05\x01\x03\x07\x08\x64", "sure"},
		{5, "\x05\x06\x04\x02ok", "\x05\x06\x04\x08\x09\x02ok", "\x05\x06\x04\x00\x01\x02ok", "part times"},
	} {
		turns(t, x.kind, 1, 1, []byte(x.old), []byte(x.old), true)
		turns(t, x.kind, 1, 2, []byte(x.old), []byte(x.was), true)
		turns(t, x.kind, 2, 1, []byte(x.new), []byte(x.old), false)
		turns(t, x.kind, 2, 1, []byte(x.was), []byte(x.old), true)
		turns(t, x.kind, 2, 2, []byte(x.new), []byte(x.new), true)
		m, e := of(t, 2).Unpack(x.kind, []byte(x.new))
		if e != api.OK {
			t.Errorf("Unpack(%d, %q): %d", x.kind, x.new, e)
		}
		gives(t, "Lost of "+told(m), schema.Lost(m, 1), strings.Fields(x.lost))
	}
}

// P19.1, P19.2: right messages of each kind, at the bounds and within, in both versions and from each to each; also with empty lists in the place of none.
func TestRight(t *testing.T) {
	for _, m := range right() {
		holds(t, m)
		holds(t, with(m, func(m *msg.Msg) {
			if len(m.Path) == 0 {
				m.Path = []msg.Point{}
			}
			if len(m.Cells) == 0 {
				m.Cells = []int{}
			}
		}))
	}
}

// P19.1, P19.2: each field since version 2 at its Absent, just beside it and at its bounds, one at a time and all together.
func TestAdded(t *testing.T) {
	for _, k := range kinds {
		all := []msg.Msg{projected(sample(k), 1)} // each choice of one field by each of those ahead
		grow := func(one func(m *msg.Msg, v int), values ...int) {
			var next []msg.Msg
			for _, m := range all {
				for _, v := range values {
					next = append(next, with(m, func(m *msg.Msg) { one(m, v) }))
				}
			}
			all = next
		}
		for i, n := range numbers(k) {
			if n.since < 2 {
				continue
			}
			var values []int
			for _, v := range []int{n.absent, n.absent - 1, n.absent + 1, n.least, n.most} {
				if v >= n.least && v <= n.most && !slices.Contains(values, v) {
					values = append(values, v)
				}
			}
			grow(func(m *msg.Msg, v int) { m.N[i] = v }, values...)
		}
		if hasTag(k) {
			grow(func(m *msg.Msg, v int) { m.Tag = strings.Repeat(" ", v) }, 0, 1, 16)
		}
		fit := 0
		for _, m := range all {
			holds(t, m)
			if v, _ := schema.Best(m); v == 1 {
				fit++
			}
		}
		if fit != 1 || len(all) < 2 {
			t.Errorf("of %d messages of kind %d %d fit version 1", len(all), k, fit)
		}
	}
}

// P19.1, P19.2: the other fields are no matter, whatever they are: at what stands in version 1 for another field, too.
func TestOthers(t *testing.T) {
	for _, k := range kinds {
		for i, n := range numbers(k) {
			for _, v := range []int{n.least, n.most, 0, 1, 100, 500, -1} {
				if n.since < 2 && v >= n.least && v <= n.most {
					holds(t, with(projected(sample(k), 1), func(m *msg.Msg) { m.N[i] = v }))
					holds(t, with(sample(k), func(m *msg.Msg) { m.N[i] = v }))
				}
			}
		}
	}
	for _, s := range []string{"", "~", "tag", strings.Repeat("a", 64)} {
		holds(t, with(sample(5), func(m *msg.Msg) { m.Text = s }))
		holds(t, with(projected(sample(5), 1), func(m *msg.Msg) { m.Text = s }))
	}
}

// refused: wrong messages, each with its error, each of Check's among them.
func refused() map[api.Errno][]msg.Msg {
	out := map[api.Errno][]msg.Msg{}
	add := func(e api.Errno, kind int, change func(m *msg.Msg)) {
		m := with(sample(kind), change)
		out[e] = append(out[e], m)
		if p := msg.Project(m, 1); msg.Check(p) == e { // as version 1 tells it, it isn't right either
			out[e] = append(out[e], p)
		}
	}
	for _, k := range wrongKinds() {
		add(api.ErrKind, 2, func(m *msg.Msg) { m.Kind = k })
	}
	for _, k := range kinds {
		for i, n := range numbers(k) {
			for _, v := range []int{n.least - 1, n.most + 1, math.MinInt, math.MaxInt} {
				add(api.ErrRange, k, func(m *msg.Msg) { m.N[i] = v })
			}
		}
		for i := len(numbers(k)); i < 6; i++ {
			add(api.ErrForm, k, func(m *msg.Msg) { m.N[i] = 1 })
		}
		if !hasText(k) {
			add(api.ErrForm, k, func(m *msg.Msg) { m.Text = "x" })
		}
		if !hasTag(k) {
			add(api.ErrForm, k, func(m *msg.Msg) { m.Tag = "x" })
		}
		if !hasCells(k) {
			add(api.ErrForm, k, func(m *msg.Msg) { m.Cells = []int{0} })
		}
		if !hasPath(k) {
			add(api.ErrForm, k, func(m *msg.Msg) { m.Path = []msg.Point{{}} })
		}
	}
	add(api.ErrShort, 1, func(m *msg.Msg) { m.Path = nil })
	add(api.ErrShort, 1, func(m *msg.Msg) { m.Path = []msg.Point{} })
	add(api.ErrMany, 1, func(m *msg.Msg) { m.Path = make([]msg.Point, 17) })
	add(api.ErrRange, 1, func(m *msg.Msg) { m.Path[2].X = 1000001 })
	add(api.ErrRange, 1, func(m *msg.Msg) { m.Path[0].Y = -1000001 })
	add(api.ErrMany, 1, func(m *msg.Msg) { m.Tag = strings.Repeat("a", 17) })
	add(api.ErrText, 1, func(m *msg.Msg) { m.Tag = "\x7f" })
	add(api.ErrShort, 3, func(m *msg.Msg) { m.Cells = nil })
	add(api.ErrMany, 3, func(m *msg.Msg) { m.Cells = rising(33) })
	add(api.ErrRange, 3, func(m *msg.Msg) { m.Cells[0] = -1 })
	add(api.ErrRange, 3, func(m *msg.Msg) { m.Cells[3] = 65536 })
	add(api.ErrForm, 3, func(m *msg.Msg) { m.Cells[1] = 0 })
	add(api.ErrMany, 5, func(m *msg.Msg) { m.Text = strings.Repeat("a", 65) })
	add(api.ErrText, 5, func(m *msg.Msg) { m.Text = "a\x1f" })
	out[api.ErrKind] = append(out[api.ErrKind], msg.Msg{})
	out[api.ErrRange] = append(out[api.ErrRange], msg.Msg{Kind: 1})
	return out
}

// P19.1, P19.2: what Check refuses is packed not at all, fits nothing, though it may be the same as its Project, has no Best and loses nothing.
func TestRefused(t *testing.T) {
	all, same := refused(), 0
	for e, l := range all {
		for _, m := range l {
			refuses(t, m, e)
			if msg.Same(m, msg.Project(m, 1)) {
				same++
			}
		}
	}
	for _, e := range []api.Errno{api.ErrKind, api.ErrRange, api.ErrShort, api.ErrMany, api.ErrForm, api.ErrText} {
		if len(all[e]) == 0 {
			t.Errorf("%d was never asked for", e)
		}
	}
	if same < 20 {
		t.Errorf("of wrong messages just %d are the same as their Project", same)
	}
}

// P19.1, P19.2: each of Decode's errors is Unpack's and Turn's, each written out; and so are those of bodies of other versions and kinds.
func TestSpoiled(t *testing.T) {
	for _, x := range []struct {
		kind, version int
		b             string
		e             api.Errno
	}{
		{2, 1, "", api.ErrEnd},
		{2, 1, "\xac", api.ErrEnd},
		{2, 1, "\xac\x02", api.ErrEnd},
		{2, 2, "\xac\x02\x02", api.ErrEnd}, // a body of version 1
		{2, 1, "\xac\x02\x02\x09", api.ErrForm},
		{2, 2, "\xac\x02\x02\x09\x00", api.ErrForm},
		{2, 1, "\x80\x00\x02", api.ErrForm},
		{2, 1, "\x80\x80\x04\x02", api.ErrRange},
		{2, 2, "\x05\x10\x02", api.ErrRange},
		{2, 2, "\x05\x02\x80\x20", api.ErrRange},
		{3, 2, "\x05\x02\x00\x01\x00", api.ErrRange},
		{4, 2, "\x05\x01\x03\x07\x08\x65", api.ErrRange},
		{5, 2, "\x05\x06\x04\x00\x00\x00", api.ErrRange},
		{1, 2, "\x05\x06\x00\x01\x02\x04\x00", api.ErrRange},
		{1, 1, "\x05\x06\x00", api.ErrShort},
		{3, 1, "\x05\x06\x00", api.ErrShort},
		{1, 1, "\x05\x06\x11", api.ErrMany},
		{3, 1, "\x05\x06\x21", api.ErrMany},
		{5, 1, "\x05\x06\x04\x41", api.ErrMany},
		{1, 2, "\x05\x06\x07\x01\x02\x04\x11", api.ErrMany},
		{1, 2, "\x05\x06\x07\x01\x02\x04\x01\x1f", api.ErrText},
		{5, 1, "\x05\x06\x04\x01\x7f", api.ErrText},
	} {
		spoiled(t, x.kind, x.version, []byte(x.b), x.e)
	}
	for _, k := range kinds {
		for _, v := range versions {
			spoiled(t, k, v, nil, api.ErrEnd)
			spoiled(t, k, v, []byte{}, api.ErrEnd)
			b := bodyOf(sample(k), v)
			for i := range b {
				spoiled(t, k, v, b[:i], api.ErrEnd)
			}
			spoiled(t, k, v, append(b, 0), api.ErrForm)
		}
	}
}

// P19.1, P19.2: kinds that are none, by whatever bytes.
func TestNoKind(t *testing.T) {
	for _, k := range wrongKinds() {
		for _, v := range versions {
			for _, b := range [][]byte{nil, {}, {1}, {172, 2, 2, 9}, {0x80, 0}, bytes.Repeat([]byte{255}, 300)} {
				spoiled(t, k, v, b, api.ErrKind)
			}
			for _, m := range right() {
				spoiled(t, k, v, bodyOf(m, v), api.ErrKind)
			}
		}
	}
}

// P19.2: in each place of Turn a version that is none, ahead of all that is wrong with the kind and the bytes, and of what isn't.
func TestNoVersion(t *testing.T) {
	for _, b := range [][]byte{nil, {}, {1}, {172, 2, 2}, {172, 2, 2, 9}, {0x80, 0}, bytes.Repeat([]byte{255}, 300)} {
		for _, k := range slices.Concat(kinds, wrongKinds()) {
			for _, v := range wrongVersions() {
				for _, other := range slices.Concat(versions, []int{v, 0, 3, -1, math.MaxInt, math.MinInt}) {
					fails(t, k, v, other, b, api.ErrVersion)
					fails(t, k, other, v, b, api.ErrVersion)
				}
			}
		}
	}
}

// P19.2: nothing is lost to versions that are none, for Project to these is a copy.
func TestLostToNone(t *testing.T) {
	for _, m := range right() {
		for _, v := range wrongVersions() {
			gives(t, fmt.Sprintf("Lost(%s, %d)", told(m), v), schema.Lost(m, v), nil)
		}
	}
}

// P19.3: each call of a nil schema, ahead of all that is wrong with what is handed in.
func TestNil(t *testing.T) {
	var s *schema.Schema
	if v := s.Version(); v != 0 {
		t.Error("Version() of nil:", v)
	}
	messages := right()
	for _, l := range refused() {
		messages = append(messages, l...)
	}
	for _, m := range messages {
		if kind, b, e := s.Pack(m); kind != 0 || len(b) != 0 || e != api.ErrArg {
			t.Errorf("Pack(%s) of nil: %d, %v, %d", told(m), kind, b, e)
		}
		if s.Fits(m) {
			t.Errorf("Fits(%s) of nil", told(m))
		}
	}
	for _, k := range slices.Concat(kinds, wrongKinds()) {
		for _, b := range [][]byte{nil, {}, {172, 2, 2}, {172, 2, 2, 9}, {0x80, 0}} {
			if m, e := s.Unpack(k, b); told(m) != told(msg.Msg{}) || e != api.ErrArg {
				t.Errorf("Unpack(%d, %v) of nil: %s, %d", k, b, told(m), e)
			}
		}
	}
}

// roomy: a message whose lists have room behind their ends, with what stands in all of it.
func roomy(m msg.Msg) (msg.Msg, []msg.Point, []int) {
	path, cells := make([]msg.Point, len(m.Path)+5), make([]int, len(m.Cells)+5)
	for i := range path {
		path[i] = msg.Point{X: 70 + i, Y: 80 + i}
	}
	for i := range cells {
		cells[i] = 90 + i
	}
	copy(path, m.Path)
	copy(cells, m.Cells)
	m.Path, m.Cells = path[:len(m.Path)], cells[:len(m.Cells)]
	return m, path, cells
}

// fill: bytes, and what is behind their end, are written to.
func fill(b []byte) {
	b = b[:cap(b)]
	for i := range b {
		b[i] = 99
	}
}

// spill: a message's lists, and what is behind their ends, are written to.
func spill(m msg.Msg) {
	path, cells := m.Path[:cap(m.Path)], m.Cells[:cap(m.Cells)]
	for i := range path {
		path[i] = msg.Point{X: -99, Y: -99}
	}
	for i := range cells {
		cells[i] = -99
	}
}

// P19.1, P19.2: a message that is handed in stays, and what is behind its lists' ends; what is packed of it is new memory.
func TestMessageMemory(t *testing.T) {
	messages := right()
	for _, l := range refused() {
		messages = append(messages, l...)
	}
	for _, from := range messages {
		for _, v := range versions {
			m, path, cells := roomy(from)
			wantPath, wantCells := slices.Clone(path), slices.Clone(cells)
			s := of(t, v)
			_, a, _ := s.Pack(m)
			_, b, _ := s.Pack(m)
			want := slices.Clone(b)
			fill(a)
			_, c, _ := s.Pack(m)
			if !bytes.Equal(b, want) || !bytes.Equal(c, want) {
				t.Errorf("Pack(%s) in %d is shared: %v, %v", told(from), v, b, c)
			}
			s.Fits(m)
			schema.Best(m)
			upTo(schema.Lost(m, v), -1)
			if !slices.Equal(path, wantPath) || !slices.Equal(cells, wantCells) || told(m) != told(from) {
				t.Errorf("%s was left as %v, %v", told(from), path, cells)
			}
		}
	}
}

// P19.2: Lost is of the message as it was handed in, whatever is written to it later, also within a ranging.
func TestLostKept(t *testing.T) {
	for _, from := range right() {
		m, _, _ := roomy(from)
		s := schema.Lost(m, 1)
		spill(m)
		m.N, m.Tag = [6]int{}, ""
		gives(t, "Lost of "+told(from)+", written to", s, lost(from, 1))
		m, _, _ = roomy(from)
		var got []string
		for name := range schema.Lost(m, 1) {
			got = append(got, name)
			spill(m)
		}
		if !slices.Equal(got, lost(from, 1)) {
			t.Errorf("Lost(%s), written to within: %v", told(from), got)
		}
		wrong, _, _ := roomy(with(from, func(m *msg.Msg) { m.N[0] = -1 }))
		s = schema.Lost(wrong, 1)
		spill(wrong)
		gives(t, "Lost of "+told(wrong), s, nil)
	}
}

// P19.1: what is unpacked is new memory; the bytes stay, and what is behind their end.
func TestUnpackMemory(t *testing.T) {
	for _, from := range right() {
		for _, v := range versions {
			s, want := of(t, v), told(projected(from, v))
			room := append(bodyOf(from, v), 200, 201, 202)
			kept := slices.Clone(room)
			b := room[:len(room)-3]
			one, _ := s.Unpack(from.Kind, b)
			other, _ := s.Unpack(from.Kind, b)
			spill(one)
			if !bytes.Equal(room, kept) {
				t.Errorf("Unpack(%d, %v) in %d left %v", from.Kind, kept, v, room)
			}
			fill(room)
			if told(other) != want {
				t.Errorf("Unpack(%d, %v) in %d is shared: %s", from.Kind, kept, v, told(other))
			}
		}
	}
}

// P19.2: what is turned is new memory, also where the versions are the same; the bytes stay, and what is behind their end.
func TestTurnMemory(t *testing.T) {
	for _, m := range right() {
		for _, from := range versions {
			for _, to := range versions {
				want := bodyOf(projected(m, from), to)
				room := append(bodyOf(m, from), 200, 201, 202)
				kept := slices.Clone(room)
				b := room[:len(room)-3]
				one, _, _ := schema.Turn(m.Kind, from, to, b)
				other, _, _ := schema.Turn(m.Kind, from, to, b)
				fill(one)
				if !bytes.Equal(room, kept) {
					t.Errorf("Turn(%d, %d, %d, %v) left %v", m.Kind, from, to, kept, room)
				}
				fill(room)
				if !bytes.Equal(other, want) {
					t.Errorf("Turn(%d, %d, %d, %v) is shared: %v", m.Kind, from, to, kept, other)
				}
			}
		}
	}
}

// chance: a right message of any kind, made of a row that is the same at each run; what is since version 2 is often at its Absent.
func chance(r *rand.Rand) msg.Msg {
	k := kinds[r.Intn(5)]
	m := ends(k, r.Intn(2) == 0)
	for i, n := range numbers(k) {
		switch {
		case r.Intn(4) > 0:
			m.N[i] = n.least + r.Intn(n.most-n.least+1)
		case n.since == 2:
			m.N[i] = n.absent
		}
	}
	line := func(most int) string {
		var b []byte
		for range r.Intn(most + 1) {
			b = append(b, byte(32+r.Intn(95)))
		}
		return string(b)
	}
	if hasPath(k) {
		m.Path, m.Tag = nil, line(16*r.Intn(2))
		for range 1 + r.Intn(16) {
			m.Path = append(m.Path, msg.Point{X: r.Intn(2000001) - 1000000, Y: r.Intn(201) - 100})
		}
	}
	if hasCells(k) {
		m.Cells = nil
		for range 1 + r.Intn(32) {
			m.Cells = append(m.Cells, r.Intn(65536))
		}
		slices.Sort(m.Cells)
		m.Cells = slices.Compact(m.Cells)
	}
	if hasText(k) {
		m.Text = line(64)
	}
	if r.Intn(3) == 0 {
		m = projected(m, 1)
	}
	return m
}

// thereAndBack: that of a body, turned from 1 to 2, nothing is lost, and that turned back it is byte by byte as it was.
func thereAndBack(t *testing.T, kind int, b []byte) {
	t.Helper()
	up, whole, e := schema.Turn(kind, 1, 2, b)
	if e != api.OK || !whole {
		t.Errorf("Turn(%d, 1, 2, %v): %v, %v, %d", kind, b, up, whole, e)
	}
	m, e := of(t, 2).Unpack(kind, up)
	if old, f := of(t, 1).Unpack(kind, b); e != api.OK || f != api.OK || !msg.Same(m, old) {
		t.Errorf("%v is %s, and turned %s", b, told(old), told(m))
	}
	gives(t, "Lost("+told(m)+", 1)", schema.Lost(m, 1), nil)
	back, whole, e := schema.Turn(kind, 2, 1, up)
	if e != api.OK || !whole || !bytes.Equal(back, b) {
		t.Errorf("Turn(%d, 2, 1, %v): %v, %v, %d, not %v", kind, up, back, whole, e, b)
	}
}

// P19.1 to P19.3: many messages are as the words have them.
func TestFollows(t *testing.T) {
	r := rand.New(rand.NewSource(19))
	seen := map[string]int{}
	for range 10000 {
		m := chance(r)
		holds(t, m)
		thereAndBack(t, m.Kind, bodyOf(m, 1))
		seen[fmt.Sprint(m.Kind, lost(m, 1))]++
	}
	for _, m := range right() {
		thereAndBack(t, m.Kind, bodyOf(m, 1))
	}
	for _, what := range []string{"1 []", "1 [accel]", "1 [tag]", "1 [accel tag]", "2 []", "2 [zone]", "3 []", "3 [lease]", "4 []", "4 [sure]", "5 []", "5 [part]", "5 [times]", "5 [part times]"} {
		if seen[what] < 20 {
			t.Errorf("%s was there but %d times", what, seen[what])
		}
	}
}

// P19.1, P19.2: many bodies that are spoiled, and read as another kind's or in another version: Unpack and Turn are as Decode and Encode have it.
func TestChance(t *testing.T) {
	r := rand.New(rand.NewSource(91))
	seen := map[api.Errno]int{}
	for range 20000 {
		m := chance(r)
		b := bodyOf(m, 1+r.Intn(2))
		for range r.Intn(3) {
			i := r.Intn(len(b) + 1)
			switch r.Intn(3) {
			case 0:
				b = slices.Insert(b, i, byte(r.Intn(256)))
			case 1:
				b = b[:i]
			default:
				b = slices.Delete(b, 0, min(i, 1))
			}
		}
		k, v := m.Kind, 1+r.Intn(2)
		if r.Intn(4) == 0 {
			k = r.Intn(7)
		}
		x, e := body.Decode(k, v, b)
		seen[e]++
		if e != api.OK {
			spoiled(t, k, v, b, e)
			continue
		}
		holds(t, x)
		for _, to := range versions {
			turns(t, k, v, to, b, bodyOf(x, to), told(projected(x, to)) == told(x))
		}
	}
	for _, e := range []api.Errno{api.OK, api.ErrForm, api.ErrEnd, api.ErrRange, api.ErrMany, api.ErrShort, api.ErrText, api.ErrKind} {
		if seen[e] < 20 {
			t.Errorf("%d was told but %d times", e, seen[e])
		}
	}
}
