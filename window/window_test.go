package window_test

import (
	"iter"
	"maps"
	"math"
	"slices"
	"testing"

	"cuneiform/api"
	"cuneiform/window"
)

const (
	last  = math.MaxUint32 // the greatest number
	half  = 1 << 31
	round = 1 << 32
	all   = math.MaxUint64 // the bits of a window of which all 64 have come
)

// step: a number so many behind another one (below 0: ahead), by division.
func step(a uint32, n int) uint32 { return uint32(((int64(a)+int64(n))%round + round) % round) }

// wayOf: how many steps of one lead from a to b.
func wayOf(a, b uint32) int64 {
	if a <= b {
		return int64(b) - int64(a)
	}
	return round - int64(a) + int64(b)
}

// isAfter: whether a is after b.
func isAfter(a, b uint32) bool {
	way := wayOf(b, a)
	return way >= 1 && way <= half-1
}

// model: a window as the chapter's words say it: its top, and those of its 64 that have come.
type model struct {
	top  uint32
	came map[uint32]bool
}

// newModel: all 64 have come, and the top is the one ahead of start.
func newModel(start uint32) *model {
	m := &model{step(start, -1), map[uint32]bool{}}
	for i := range 64 {
		m.came[step(m.top, -i)] = true
	}
	return m
}

// look: what a number is.
func (m *model) look(n uint32) api.Errno {
	switch {
	case isAfter(n, m.top):
		return api.OK
	case wayOf(n, m.top) > 63:
		return api.ErrOld
	case m.came[n]:
		return api.ErrSeen
	}
	return api.OK
}

// mark: likewise, and a new one comes.
func (m *model) mark(n uint32) api.Errno {
	e := m.look(n)
	if e != api.OK {
		return e
	}
	if isAfter(n, m.top) {
		m.top = n
	}
	m.came[n] = true
	maps.DeleteFunc(m.came, func(n uint32, _ bool) bool { return wayOf(n, m.top) > 63 })
	return e
}

// bits: those that have come, by how many they are ahead of the top.
func (m *model) bits() uint64 {
	var out uint64
	for n := range m.came {
		out += 1 << wayOf(n, m.top)
	}
	return out
}

// come: those that have come, from the top on.
func (m *model) come() []uint32 {
	var out []uint32
	for i := range 64 {
		if n := step(m.top, -i); m.came[n] {
			out = append(out, n)
		}
	}
	return out
}

// missing: those that haven't, from the oldest one on.
func (m *model) missing() []uint32 {
	var out []uint32
	for i := range 64 {
		if n := step(m.top, i-63); !m.came[n] {
			out = append(out, n)
		}
	}
	return out
}

// copied: one that is the same.
func (m *model) copied() *model { return &model{m.top, maps.Clone(m.came)} }

// run: so many numbers from one on.
func run(from uint32, n int) []uint32 {
	var out []uint32
	for i := range n {
		out = append(out, step(from, i))
	}
	return out
}

// back: a list, from its end on.
func back(l []uint32) []uint32 {
	out := slices.Clone(l)
	slices.Reverse(out)
	return out
}

// given: the first so many that are given; all of them, if most is below 1.
func given(seq iter.Seq[uint32], most int) []uint32 {
	var out []uint32
	for n := range seq {
		out = append(out, n)
		if len(out) == most {
			break
		}
	}
	return out
}

// shows: whether a window tells of itself what it has to.
func shows(t *testing.T, what string, w *window.Window, top uint32, bits uint64, come, missing []uint32) {
	t.Helper()
	if w.Top() != top || w.Bits() != bits {
		t.Errorf("%s: top %d, bits %x, not %d, %x", what, w.Top(), w.Bits(), top, bits)
	}
	if got := given(w.Come(), 0); !slices.Equal(got, come) {
		t.Errorf("%s: come %v, not %v", what, got, come)
	}
	if got := w.Missing(); !slices.Equal(got, missing) {
		t.Errorf("%s: missing %v, not %v", what, got, missing)
	}
}

// is: whether a window is as the model, and tells the same of numbers all about its top.
func is(t *testing.T, what string, w *window.Window, m *model) {
	t.Helper()
	shows(t, what, w, m.top, m.bits(), m.come(), m.missing())
	for i := -130; i <= 130; i++ {
		looked(t, what, w, m, step(m.top, i))
		looked(t, what, w, m, step(m.top, half+i))
	}
}

// looked: whether a window tells of a number what the model does.
func looked(t *testing.T, what string, w *window.Window, m *model, n uint32) {
	t.Helper()
	if got, want := w.Look(n), m.look(n); got != want {
		t.Errorf("%s: Look(%d), which is %d behind the top: %d, not %d", what, n, wayOf(m.top, n), got, want)
	}
}

// marked: marks a number in both, and tells whether their answers are one.
func marked(t *testing.T, what string, w *window.Window, m *model, n uint32) api.Errno {
	t.Helper()
	got, want := w.Mark(n), m.mark(n)
	if got != want {
		t.Errorf("%s: Mark(%d): %d, not %d", what, n, got, want)
	}
	return got
}

// of: a window of a start and the model, to which these have come.
func of(start uint32, l ...uint32) (*window.Window, *model) {
	w, m := window.New(start), newModel(start)
	for _, n := range l {
		w.Mark(n)
		m.mark(n)
	}
	return w, m
}

// spread: a window and the model, of whose 64 about half have come.
func spread(start uint32) (*window.Window, *model) {
	w, m := of(start)
	for _, i := range []int{1, 2, 4, 7, 8, 13, 21, 22, 23, 40, 41, 63, 64, 65, 66, 70, 77, 90, 91, 95} {
		w.Mark(step(start, i))
		m.mark(step(start, i))
	}
	return w, m
}

// answers: whether Look, and Mark behind it, tell that of a number.
func answers(t *testing.T, w *window.Window, n uint32, e api.Errno) {
	t.Helper()
	if got := w.Look(n); got != e {
		t.Errorf("Look(%d): %d, not %d", n, got, e)
	}
	if got := w.Mark(n); got != e {
		t.Errorf("Mark(%d): %d, not %d", n, got, e)
	}
}

// starts: those at which something may turn.
func starts() []uint32 {
	return []uint32{
		0, 1, 2, 5, 62, 63, 64, 65, 66, 127, 128, 129, 1000, 0x12345678, half - 65, half - 64, half - 63, half - 1, half, half + 1,
		half + 63, half + 64, half + 65, 0xaaaaaaaa, last - 128, last - 65, last - 64, last - 63, last - 62, last - 1, last,
	}
}

// P11.1: of a fresh window all 64 have come, and nothing else.
func TestFresh(t *testing.T) {
	for _, start := range starts() {
		w := window.New(start)
		if w == nil {
			t.Fatalf("New(%d) is nil", start)
		}
		shows(t, "fresh", w, step(start, -1), all, back(run(step(start, -64), 64)), nil)
		for _, x := range []struct {
			steps int
			e     api.Errno
		}{
			{0, api.OK}, {1, api.OK}, {63, api.OK}, {64, api.OK}, {65, api.OK}, {half - 3, api.OK}, {half - 2, api.OK},
			{-1, api.ErrSeen}, {-2, api.ErrSeen}, {-63, api.ErrSeen}, {-64, api.ErrSeen},
			{-65, api.ErrOld}, {-66, api.ErrOld}, {-1000, api.ErrOld}, {-half, api.ErrOld}, {-half - 1, api.ErrOld}, {half - 1, api.ErrOld}, {half, api.ErrOld},
		} {
			if e := w.Look(step(start, x.steps)); e != x.e {
				t.Errorf("New(%d): Look(%d): %d, not %d", start, step(start, x.steps), e, x.e)
			}
		}
		is(t, "fresh", w, newModel(start))
	}
}

// P11.1: the chapter's example.
func TestExample(t *testing.T) {
	w := window.New(5)
	for _, x := range []struct {
		mark bool
		n    uint32
		e    api.Errno
	}{{false, 4, api.ErrSeen}, {true, 7, api.OK}, {false, 5, api.OK}, {false, 7, api.ErrSeen}, {true, 100, api.OK}, {false, 5, api.ErrOld}} {
		call, e := "Look", w.Look(x.n)
		if x.mark {
			call, e = "Mark", w.Mark(x.n)
		}
		if e != x.e {
			t.Errorf("%s(%d): %d, not %d", call, x.n, e, x.e)
		}
	}
	shows(t, "behind the example", w, 100, 1, []uint32{100}, run(37, 63))
}

// P11.1, P11.2: windows on either side of 2^32, of which all is known.
func TestKnownRound(t *testing.T) {
	w := window.New(0)
	answers(t, w, last, api.ErrSeen)
	answers(t, w, last-63, api.ErrSeen)
	answers(t, w, last-64, api.ErrOld)
	answers(t, w, 2, api.OK)
	shows(t, "New(0), 2", w, 2, all-2-4, slices.Concat([]uint32{2}, back(run(last-60, 61))), []uint32{0, 1})
	answers(t, w, 0, api.OK)
	answers(t, w, last, api.ErrSeen)
	answers(t, w, last-60, api.ErrSeen)
	answers(t, w, last-61, api.ErrOld)
	w = window.New(last - 2)
	answers(t, w, last, api.OK)
	answers(t, w, 1, api.OK)
	answers(t, w, last-1, api.OK)
	answers(t, w, last, api.ErrSeen)
	shows(t, "New(2^32 - 3), last, 1, last - 1", w, 1, all-2-16, slices.Concat([]uint32{1, last, last - 1}, back(run(last-61, 59))), []uint32{last - 2, 0})
	answers(t, w, 60, api.OK)
	shows(t, "then 60", w, 60, 1|1<<59|3<<61, []uint32{60, 1, last, last - 1}, slices.Concat([]uint32{last - 2, 0}, run(2, 58)))
	answers(t, w, last-3, api.ErrOld)
	answers(t, w, last-2, api.OK)
	answers(t, w, last-2, api.ErrSeen)
	answers(t, w, 0, api.OK)
	answers(t, w, 65, api.OK)
	shows(t, "then last - 2, 0, 65", w, 65, 1|1<<5, []uint32{65, 60}, slices.Concat(run(2, 58), run(61, 4)))
}

// P11.1: the top itself, and numbers 63, 64 and 65 ahead of it, of fresh windows and of such as have come further.
func TestAheadOfTop(t *testing.T) {
	for _, start := range starts() {
		for _, further := range []int{1, 2, 63, 64, 65, 1000} {
			top := step(start, further-1)
			for _, x := range []struct {
				ahead int
				fresh api.Errno // of a window that began there
			}{{0, api.ErrSeen}, {1, api.ErrSeen}, {62, api.ErrSeen}, {63, api.ErrSeen}, {64, api.ErrOld}, {65, api.ErrOld}, {66, api.ErrOld}, {half - 1, api.ErrOld}, {half, api.ErrOld}} {
				answers(t, window.New(step(top, 1)), step(top, -x.ahead), x.fresh)
				w, _ := of(start, top)
				e := x.fresh
				if x.ahead > 0 && x.ahead < 64 && x.ahead < further {
					e = api.OK // between the start and the top nothing has come
				}
				answers(t, w, step(top, -x.ahead), e)
				if e == api.OK {
					answers(t, w, step(top, -x.ahead), api.ErrSeen)
				}
				if w.Top() != top {
					t.Errorf("the top is %d, behind a number %d ahead of it, %d", w.Top(), x.ahead, top)
				}
			}
		}
	}
}

// P11.1: a number after the top becomes the top, and all between haven't come; 2^31 and more steps behind the top none is after it.
func TestAfterTop(t *testing.T) {
	for _, start := range starts() {
		for _, way := range []int{1, 2, 3, 31, 32, 33, 62, 63, 64, 65, 66, 127, 128, 129, 1 << 16, 1 << 30, half - 2, half - 1} {
			w, m := spread(start)
			was, n := w.Top(), step(w.Top(), way)
			before := given(w.Come(), 0)
			answers(t, w, n, api.OK)
			m.mark(n)
			is(t, "behind a step", w, m)
			come := []uint32{n}
			for _, x := range before {
				if wayOf(x, n) < 64 {
					come = append(come, x)
				}
			}
			if got := given(w.Come(), 0); w.Top() != n || !slices.Equal(got, come) {
				t.Errorf("%d steps behind the top %d: top %d, come %v, not %v", way, was, w.Top(), got, come)
			}
			answers(t, w, n, api.ErrSeen)
			for i := 1; i < min(way, 64); i++ {
				answers(t, w, step(n, -i), api.OK) // one between
			}
		}
		for _, way := range []int{half, half + 1, half + 2, half + 64, 3 << 30, round - 65, round - 64} {
			w, m := spread(start)
			answers(t, w, step(w.Top(), way), api.ErrOld)
			is(t, "behind no step", w, m)
		}
	}
}

// P11.1: of a fresh window, whose all 64 have come, a step's bits are known.
func TestBitsAfterStep(t *testing.T) {
	for _, x := range []struct {
		way  int
		bits uint64
	}{
		{1, all}, {2, all - 2}, {3, all - 6}, {4, all - 14}, {33, all - (1<<33 - 2)},
		{62, 3<<62 | 1}, {63, 1<<63 | 1}, {64, 1}, {65, 1}, {127, 1}, {128, 1}, {half - 1, 1},
	} {
		for _, start := range starts() {
			w := window.New(start)
			w.Mark(step(start, x.way-1))
			if w.Bits() != x.bits {
				t.Errorf("New(%d), %d steps: %x, not %x", start, x.way, w.Bits(), x.bits)
			}
		}
	}
}

// P11.1: a number between two that came is new, once, and the top stays.
func TestBetween(t *testing.T) {
	for _, start := range starts() {
		for way := 2; way <= 63; way++ {
			for i := 1; i < way; i++ {
				low, n, high := start, step(start, i), step(start, way)
				w, m := of(start, low, high)
				answers(t, w, n, api.OK)
				answers(t, w, n, api.ErrSeen)
				m.mark(n)
				shows(t, "one between", w, high, m.bits(), m.come(), m.missing())
			}
		}
	}
}

// P11.1: Look changes nothing, whatever it tells, and Mark neither, where it tells an error.
func TestNothingChanges(t *testing.T) {
	for _, start := range starts() {
		w, m := spread(start)
		top, bits := w.Top(), w.Bits()
		for i := -200; i <= 200; i++ {
			for _, n := range []uint32{step(top, i), step(top, half+i), step(top, 1<<30+i)} {
				first := w.Look(n)
				if again := w.Look(n); again != first {
					t.Errorf("Look(%d): %d, and then %d", n, first, again)
				}
				if first != api.OK {
					if e := w.Mark(n); e != first {
						t.Errorf("Mark(%d): %d, but Look %d", n, e, first)
					}
				}
				if w.Top() != top || w.Bits() != bits {
					t.Fatalf("behind Look(%d): top %d, bits %x, not %d, %x", n, w.Top(), w.Bits(), top, bits)
				}
			}
		}
		is(t, "behind nothing", w, m)
	}
}

// ways: calls f with all rows of up to most steps of an alphabet, behind a beginning.
func ways(begin, alphabet []int, most int, f func(l []int)) {
	f(begin)
	if most == 0 {
		return
	}
	for _, n := range alphabet {
		ways(append(slices.Clone(begin), n), alphabet, most-1, f)
	}
}

// P11.1, P11.2: all short rows of numbers, each so many steps from the top, against the words.
func TestShortRows(t *testing.T) {
	alphabet := []int{1, 2, 63, 64, half - 1, half, half + 1, 0, -1, -2, -62, -63, -64}
	for _, start := range []uint32{0, 5, half + 7, last - 1} {
		ways(nil, alphabet, 4, func(l []int) {
			w, m := of(start)
			for _, n := range l {
				marked(t, "a short row", w, m, step(m.top, n))
			}
			shows(t, "a short row", w, m.top, m.bits(), m.come(), m.missing())
		})
	}
}

// chance: numbers that look like chance, the same each time.
type chance uint64

// below: the next one, below a bound.
func (c *chance) below(n int) int {
	*c = *c*6364136223846793005 + 1442695040888963407
	return int(uint64(*c) >> 33 % uint64(n))
}

// P11.1, P11.2: long rows of numbers about the top, against the words.
func TestLongRows(t *testing.T) {
	c := chance(1)
	for _, start := range starts() {
		w, m := of(start)
		for range 3000 {
			n := step(m.top, c.below(150)-130)
			switch c.below(40) {
			case 0:
				n = step(m.top, 1+c.below(half-1))
			case 1:
				n = step(m.top, -c.below(half+1))
			}
			marked(t, "a long row", w, m, n)
			looked(t, "a long row", w, m, step(m.top, c.below(200)-150))
			shows(t, "a long row", w, m.top, m.bits(), m.come(), m.missing())
		}
		is(t, "a long row's end", w, m)
	}
}

// P11.2: Come and Missing part the 64 among them, each in its order.
func TestParted(t *testing.T) {
	for _, start := range starts() {
		w, _ := spread(start)
		come, missing := given(w.Come(), 0), w.Missing()
		if len(come)+len(missing) != 64 || len(missing) == 0 || come[0] != w.Top() {
			t.Errorf("New(%d): %d have come, from %d on, and %d are missing", start, len(come), come[0], len(missing))
		}
		for i := 1; i < len(come); i++ {
			if !isAfter(come[i-1], come[i]) {
				t.Errorf("come %v: %d isn't ahead of %d", come, come[i], come[i-1])
			}
		}
		for i := 1; i < len(missing); i++ {
			if !isAfter(missing[i], missing[i-1]) {
				t.Errorf("missing %v: %d isn't after %d", missing, missing[i], missing[i-1])
			}
		}
		for _, n := range come {
			if e := w.Look(n); e != api.ErrSeen {
				t.Errorf("%d has come: Look: %d", n, e)
			}
		}
		for _, n := range missing {
			answers(t, w, n, api.OK)
		}
		shows(t, "when the missing have come", w, step(start, 95), all, back(run(step(start, 32), 64)), nil)
	}
}

// P11.2: a ranging over Come is left at each of its numbers, and they are given anew each time, also within a loop.
func TestComeIsRangedOver(t *testing.T) {
	for _, start := range starts() {
		w, m := spread(start)
		come, seq := m.come(), w.Come()
		for most := 1; most <= len(come); most++ {
			if got := given(seq, most); !slices.Equal(got, come[:most]) {
				t.Errorf("New(%d): left at %d: %v, not %v", start, most, got, come[:most])
			}
			if got := given(seq, 0); !slices.Equal(got, come) {
				t.Errorf("New(%d): behind a loop that was left at %d: %v, not %v", start, most, got, come)
			}
		}
		outer := 0
		for n := range seq {
			if n != come[outer] {
				t.Errorf("New(%d): number %d, with a loop in the loop: %d", start, outer, n)
			}
			outer++
			if inner := given(seq, outer); !slices.Equal(inner, come[:outer]) {
				t.Errorf("New(%d): a loop in the loop: %v", start, inner)
			}
		}
		if outer != len(come) {
			t.Errorf("New(%d): %d numbers, with a loop in the loop", start, outer)
		}
		is(t, "behind rangings", w, m)
	}
}

// P11.2: a loop that ends is asked no further.
func TestComeAsksNoFurther(t *testing.T) {
	w, m := spread(last - 50)
	for most := 1; most <= len(m.come()); most++ {
		asked := 0
		w.Come()(func(uint32) bool {
			asked++
			return asked < most
		})
		if asked != most {
			t.Errorf("left at %d: asked %d times", most, asked)
		}
	}
}

// The rules on memory: what Come gives is of when it was called, also when numbers come ahead of the ranging, or within it.
func TestComeIsOfItsCall(t *testing.T) {
	for _, start := range starts() {
		w, m := spread(start)
		come, seq := m.come(), w.Come()
		marked(t, "ahead of the ranging", w, m, w.Missing()[3])
		marked(t, "ahead of the ranging", w, m, step(w.Top(), 2))
		if got := given(seq, 0); !slices.Equal(got, come) {
			t.Errorf("New(%d): %v, behind marks, not %v", start, got, come)
		}
		come = m.come()
		var got []uint32
		for n := range w.Come() {
			got = append(got, n)
			marked(t, "within the ranging", w, m, step(w.Top(), 3))
		}
		if !slices.Equal(got, come) {
			t.Errorf("New(%d): %v, with marks between, not %v", start, got, come)
		}
		is(t, "behind marks", w, m)
	}
}

// The rules on memory: the list that Missing gave is its caller's, who may change it and put to it.
func TestMissingIsNewMemory(t *testing.T) {
	for _, start := range starts() {
		w, m := spread(start)
		want, one, other := m.missing(), w.Missing(), w.Missing()
		for i := range one {
			one[i] = w.Top()
		}
		_ = append(one[:1], 9, 9, 9)
		_ = append(one, 9, 9, 9)
		if !slices.Equal(other, want) {
			t.Errorf("New(%d): %v, when another list was changed, not %v", start, other, want)
		}
		is(t, "when a list was changed", w, m)
	}
}

// P11.1: a copy is the same, and what comes to it, or to the window that it was made from, comes to it alone.
func TestCopy(t *testing.T) {
	for _, start := range starts() {
		for _, further := range []int{-1, 0, 1, 2, 40, 64, half - 1} { // from the top; below 0: one that is missing
			w, m := spread(start)
			n := step(w.Top(), further)
			if further < 0 {
				n = w.Missing()[5]
			}
			c, mc := w.Copy(), m.copied()
			is(t, "a copy", c, mc)
			marked(t, "a copy", c, mc, n)
			is(t, "a copy that was marked", c, mc)
			is(t, "a window whose copy was marked", w, m)
			c, mc = w.Copy(), m.copied()
			marked(t, "a window that was copied", w, m, n)
			is(t, "a copy whose window was marked", c, mc)
			is(t, "a window that was copied and marked", w, m)
			marked(t, "both", c, mc, step(n, 1))
			marked(t, "both", w, m, step(n, 2))
			is(t, "a copy, both marked", c, mc)
			is(t, "a window, both marked", w, m)
		}
	}
	w := window.New(5)
	c := w.Copy().Copy()
	answers(t, c, 7, api.OK)
	answers(t, w, 7, api.OK)
}

// P11.1: two windows are two.
func TestTwo(t *testing.T) {
	a, b := window.New(5), window.New(5)
	answers(t, a, 9, api.OK)
	answers(t, b, 9, api.OK)
	answers(t, a, 8, api.OK)
	shows(t, "the other one", b, 9, all-30, slices.Concat([]uint32{9}, back(run(step(5, -59), 59))), []uint32{5, 6, 7, 8})
}

// P11.3: a number that has come isn't new, till the top is more than 2^31 behind it; one that is less far has been passed in any steps.
func TestNeverTwice(t *testing.T) {
	for _, start := range starts() {
		for _, strides := range [][]int{{1 << 29}, {half - 1}, {1, half - 2}, {half - 2, 1}, {63, 1, 1, 1<<30 - 5}, {64, 1 << 28}, {1 << 20, 1<<27 + 3}} {
			w := window.New(start)
			answers(t, w, start, api.OK)
			gone := 0
			for i := 0; gone < half-1; i++ {
				stride := min(strides[i%len(strides)], half-1-gone)
				gone += stride
				if e := w.Mark(step(start, gone)); e != api.OK {
					t.Fatalf("%d, %d behind the start: %d", step(start, gone), gone, e)
				}
				if e := w.Look(start); e == api.OK {
					t.Fatalf("%d is new once more, %d behind it", start, gone)
				}
			}
			answers(t, w, start, api.ErrOld)
			answers(t, w, step(start, half), api.OK)
			answers(t, w, start, api.ErrOld) // 2^31 apart: neither is after the other one
			answers(t, w, step(start, half+1), api.OK)
			answers(t, w, start, api.OK) // by P11.1: it is after the top
		}
	}
}

// P11.3: in long rows of any numbers no number comes twice, while the top is less than 2^31 behind it.
func TestNeverTwiceByChance(t *testing.T) {
	c := chance(7)
	for _, start := range starts() {
		w := window.New(start)
		gone := int64(0)           // how far the top went in all
		came := map[uint32]int64{} // where the numbers are that came, counted like that
		for range 4000 {
			n := step(w.Top(), c.below(170)-150)
			if c.below(20) == 0 {
				n = step(w.Top(), c.below(1<<30))
			}
			top := w.Top()
			if w.Mark(n) != api.OK {
				continue
			}
			at := gone + wayOf(top, n)
			if w.Top() != n {
				at = gone - wayOf(n, top)
			}
			if was, ok := came[n]; ok && gone-was < half {
				t.Fatalf("New(%d): %d came twice, the top going from %d to %d", start, n, was, gone)
			}
			came[n], gone = at, max(gone, at)
		}
	}
}

// onceEach: marks numbers in an order, and asks whether each is new once.
func onceEach(t *testing.T, start uint32, l []uint32) {
	t.Helper()
	w := window.New(start)
	for i, n := range l {
		if e := w.Look(n); e != api.OK {
			t.Fatalf("New(%d), %v: number %d, %d: Look: %d", start, l, i, n, e)
		}
		if e := w.Mark(n); e != api.OK {
			t.Fatalf("New(%d), %v: number %d, %d: Mark: %d", start, l, i, n, e)
		}
		for _, was := range l[:i+1] {
			if e := w.Mark(was); e == api.OK {
				t.Fatalf("New(%d), %v: number %d, %d, and then %d is new again", start, l, i, n, was)
			}
		}
	}
}

// shuffled: n numbers from start on, of which none lies 64 or more ahead of one that comes sooner, and of which each gap-th never comes.
func shuffled(c *chance, start uint32, n, gap int) []uint32 {
	var left []int
	for i := range n {
		if i%gap != gap-1 {
			left = append(left, i)
		}
	}
	var out []uint32
	for len(left) > 0 {
		near := 1
		for near < len(left) && left[near]-left[0] < 64 {
			near++
		}
		i := c.below(near)
		if c.below(3) == 0 {
			i = near - 1 // as far as may be
		}
		out = append(out, step(start, left[i]))
		left = slices.Delete(left, i, i+1)
	}
	return out
}

// P11.3: numbers from start on, in an order in which none lies 64 or more ahead of a later one that came, are each new once.
func TestShuffled(t *testing.T) {
	c := chance(3)
	for _, start := range starts() {
		for _, gap := range []int{math.MaxInt, 2, 3, 50} {
			onceEach(t, start, run(start, 200))
			onceEach(t, start, back(run(start, 64)))
			onceEach(t, start, shuffled(&c, start, 300, gap))
		}
	}
}

// orders: calls f with a beginning and each order of what is left.
func orders(begin, left []int, f func(l []int)) {
	if len(left) == 0 {
		f(begin)
		return
	}
	for i, n := range left {
		orders(append(slices.Clone(begin), n), slices.Delete(slices.Clone(left), i, i+1), f)
	}
}

// lags: whether one of a list is 64 or more ahead of one that comes sooner.
func lags(l []int) bool {
	most := 0
	for _, n := range l {
		if most-n >= 64 {
			return true
		}
		most = max(most, n)
	}
	return false
}

// P11.3: few numbers at the bound of 64, in each order: those that lag too far are old, others new once.
func TestOrders(t *testing.T) {
	lagged := 0
	for _, start := range []uint32{0, 5, half - 64, last - 64, last} {
		for _, set := range [][]int{{0, 1, 2, 3, 4}, {0, 1, 31, 62, 63}, {0, 1, 63, 64, 65}, {0, 63, 64, 126, 127, 128}, {7, 70, 71, 134, 135}, {0, 64, 128, 192}} {
			orders(nil, set, func(l []int) {
				var numbers []uint32
				for _, n := range l {
					numbers = append(numbers, step(start, n))
				}
				if !lags(l) {
					onceEach(t, start, numbers)
					return
				}
				lagged++
				w, m := of(start)
				for _, n := range numbers {
					marked(t, "numbers that lag", w, m, n)
				}
			})
		}
	}
	if lagged < 100 {
		t.Errorf("just %d orders in which one lags", lagged)
	}
}

// P11.3: a nil window answers each call, and stays nil.
func TestNil(t *testing.T) {
	var w *window.Window
	for range 2 {
		for _, n := range starts() {
			answers(t, w, n, api.ErrArg)
		}
		if w.Top() != 0 || w.Bits() != 0 {
			t.Errorf("nil: top %d, bits %x", w.Top(), w.Bits())
		}
		come := w.Come()
		if come == nil {
			t.Fatal("nil: Come is nil")
		}
		if got := given(come, 0); len(got) > 0 {
			t.Errorf("nil: come %v", got)
		}
		if got := w.Missing(); len(got) > 0 {
			t.Errorf("nil: missing %v", got)
		}
		if w.Copy() != nil {
			t.Error("nil: a copy")
		}
	}
}
