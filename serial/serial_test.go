package serial_test

import (
	"iter"
	"math"
	"math/big"
	"slices"
	"testing"

	"cuneiform/serial"
)

const (
	top   = math.MaxUint32 // the greatest number
	half  = 1 << 31
	round = 1 << 32
)

// numbers: those at which something may turn, and some between.
func numbers() []uint32 {
	out := []uint32{5, 77, 1000, 0x12345678, 0x55555555, 0xaaaaaaaa, 0xfedcba98}
	for i := range 32 {
		one := uint32(1) << i
		out = append(out, one-1, one, one+1, -one-1, -one, -one+1)
	}
	slices.Sort(out)
	return slices.Compact(out)
}

// ways: from 0 to 2^32 - 1, about those at which After and Diff turn.
func ways() []uint32 {
	return []uint32{0, 1, 2, 3, 255, 1<<30 - 1, 1 << 30, half - 2, half - 1, half, half + 1, half + 2, 3 << 30, top - 1, top}
}

// counts: of steps, either way round, some of more than one round.
func counts() []int {
	out := []int{0, math.MinInt, math.MinInt + 1, math.MinInt + 5, math.MaxInt, math.MaxInt - 1, math.MaxInt - 5}
	for _, n := range []int{1, 2, 7, 300, 65536, half, round, 3 * round, 1 << 40, 1 << 62} {
		for d := -2; d <= 2; d++ {
			out = append(out, n+d, -n+d)
		}
	}
	return out
}

// wrapped: what a + n is within a round, by division.
func wrapped(a uint32, n int) uint32 {
	sum := new(big.Int).Add(big.NewInt(int64(a)), big.NewInt(int64(n)))
	return uint32(sum.Mod(sum, big.NewInt(round)).Uint64())
}

// wayOf: the way, as the chapter's words say it.
func wayOf(a, b uint32) int64 {
	if a <= b {
		return int64(b) - int64(a)
	}
	return round - int64(a) + int64(b)
}

// isAfter: whether a is after b, as the chapter's words say it.
func isAfter(a, b uint32) bool {
	way := wayOf(b, a)
	return way >= 1 && way <= half-1
}

// diffOf: the way from b to a, with a sign.
func diffOf(a, b uint32) int {
	way := wayOf(b, a)
	if way >= half {
		way -= round
	}
	return int(way)
}

// walked: what is taken of a list, when one goes through it once from the left.
func walked(l []uint32, takes func(n, now uint32) bool) (uint32, bool) {
	if len(l) == 0 {
		return 0, false
	}
	now := l[0]
	for _, n := range l[1:] {
		if takes(n, now) {
			now = n
		}
	}
	return now, true
}

// lists: calls f with all lists of up to most numbers of an alphabet, behind a beginning.
func lists(begin, alphabet []uint32, most int, f func(l []uint32)) {
	f(slices.Clone(begin))
	if most == 0 {
		return
	}
	for _, n := range alphabet {
		lists(append(slices.Clone(begin), n), alphabet, most-1, f)
	}
}

// orders: calls f with a list in each of its orders.
func orders(l []uint32, f func(l []uint32)) { ordered(nil, l, f) }

// ordered: calls f with a beginning and each order of what is left.
func ordered(begin, left []uint32, f func(l []uint32)) {
	if len(left) == 0 {
		f(slices.Clone(begin))
		return
	}
	for i, n := range left {
		ordered(append(slices.Clone(begin), n), slices.Delete(slices.Clone(left), i, i+1), f)
	}
}

// ends: whether a list's newest and oldest are those.
func ends(t *testing.T, l []uint32, newest, oldest uint32, some bool) {
	t.Helper()
	if n, is := serial.Newest(l...); n != newest || is != some {
		t.Errorf("Newest(%v): %d, %t, not %d, %t", l, n, is, newest, some)
	}
	if n, is := serial.Oldest(l...); n != oldest || is != some {
		t.Errorf("Oldest(%v): %d, %t, not %d, %t", l, n, is, oldest, some)
	}
}

// given: the first so many that are given; all of them, if most is below 1.
func given(seq iter.Seq[uint32], most int) []uint32 {
	var out []uint32
	for n := range seq {
		out = append(out, n)
		if len(out) == most {
			break
		}
	}
	return out
}

// P10.1: Add, where the number is known.
func TestKnownAdd(t *testing.T) {
	for _, x := range []struct {
		a    uint32
		n    int
		want uint32
	}{
		{0, 0, 0}, {5, 0, 5}, {top, 0, top},
		{0, 1, 1}, {5, 7, 12}, {5, -5, 0}, {12, -7, 5},
		{top, 1, 0}, {top, 2, 1}, {top - 1, 3, 1}, {0, -1, top}, {1, -2, top}, {0, -2, top - 1},
		{0, top, top}, {0, -top, 1}, {1, top, 0}, {top, top, top - 1}, {top, -top, 0},
		{0, half, half}, {half, half, 0}, {0, -half, half}, {half, -half, 0}, {half - 1, 1, half}, {half, -1, half - 1},
		{7, round, 7}, {7, -round, 7}, {7, round + 1, 8}, {7, -round - 1, 6}, {7, 5*round - 8, top}, {7, -5*round - 8, top},
		{0, math.MaxInt, top}, {1, math.MaxInt, 0}, {top, math.MaxInt, top - 1}, {0, math.MaxInt - 1, top - 1},
		{0, math.MinInt, 0}, {9, math.MinInt, 9}, {top, math.MinInt, top}, {top, math.MinInt + 1, 0},
	} {
		if n := serial.Add(x.a, x.n); n != x.want {
			t.Errorf("Add(%d, %d): %d, not %d", x.a, x.n, n, x.want)
		}
	}
}

// P10.1: Add against a division, and back again.
func TestAdd(t *testing.T) {
	for _, a := range numbers() {
		for _, n := range counts() {
			b := serial.Add(a, n)
			if want := wrapped(a, n); b != want {
				t.Errorf("Add(%d, %d): %d, not %d", a, n, b, want)
			}
			if n != math.MinInt && serial.Add(b, -n) != a {
				t.Errorf("Add(%d, %d), and back: %d", a, n, serial.Add(b, -n))
			}
		}
	}
}

// P10.1: Way, After and Diff, where they are known.
func TestKnownPairs(t *testing.T) {
	for _, x := range []struct {
		a, b  uint32
		way   uint32
		after bool
		diff  int
	}{
		{2, top, top - 2, true, 3}, // the chapter's
		{top, 2, 3, false, -3},
		{0, 0, 0, false, 0}, {5, 5, 0, false, 0}, {half, half, 0, false, 0}, {top, top, 0, false, 0},
		{1, 0, top, true, 1}, {0, 1, 1, false, -1}, {9, 4, top - 4, true, 5}, {4, 9, 5, false, -5},
		{0, top, top, true, 1}, {top, 0, 1, false, -1},
		{half - 1, 0, half + 1, true, half - 1}, {0, half - 1, half - 1, false, -half + 1},
		{half, 0, half, false, -half}, {0, half, half, false, -half},
		{half + 1, 0, half - 1, false, -half + 1}, {0, half + 1, half + 1, true, half - 1},
		{half - 2, top, half + 1, true, half - 1}, {top, half - 2, half - 1, false, -half + 1},
		{half - 1, top, half, false, -half}, {top, half - 1, half, false, -half},
		{half, top, half - 1, false, -half + 1}, {top, half, half + 1, true, half - 1},
		{half, half - 1, top, true, 1}, {half - 1, half, 1, false, -1},
		{half + 5, 5, half, false, -half}, {5, half + 5, half, false, -half},
		{half + 4, 5, half + 1, true, half - 1}, {half + 6, 5, half - 1, false, -half + 1},
	} {
		if way := serial.Way(x.a, x.b); way != x.way {
			t.Errorf("Way(%d, %d): %d, not %d", x.a, x.b, way, x.way)
		}
		if after := serial.After(x.a, x.b); after != x.after {
			t.Errorf("After(%d, %d): %t", x.a, x.b, after)
		}
		if diff := serial.Diff(x.a, x.b); diff != x.diff {
			t.Errorf("Diff(%d, %d): %d, not %d", x.a, x.b, diff, x.diff)
		}
	}
}

// paired: whether Way, After and Diff are as the words say of two numbers.
func paired(t *testing.T, a, b uint32) {
	t.Helper()
	if way := serial.Way(a, b); int64(way) != wayOf(a, b) || wrapped(a, int(way)) != b {
		t.Errorf("Way(%d, %d): %d, not %d", a, b, way, wayOf(a, b))
	}
	if after := serial.After(a, b); after != isAfter(a, b) {
		t.Errorf("After(%d, %d): %t", a, b, after)
	}
	diff := serial.Diff(a, b)
	if diff != diffOf(a, b) || diff < -half || diff > half-1 || wrapped(b, diff) != a {
		t.Errorf("Diff(%d, %d): %d, not %d", a, b, diff, diffOf(a, b))
	}
	if serial.After(a, b) != (diff > 0) {
		t.Errorf("After(%d, %d): %t, though they are %d apart", a, b, serial.After(a, b), diff)
	}
	apart := serial.Way(a, b)
	if either := serial.After(a, b) != serial.After(b, a); either != (apart != 0 && apart != half) {
		t.Errorf("%d and %d, which are %d apart: after %t, and the other way round %t", a, b, apart, serial.After(a, b), serial.After(b, a))
	}
}

// P10.1: pairs, and pairs at ways at which something turns, against the words.
func TestPairs(t *testing.T) {
	for _, a := range numbers() {
		for _, b := range numbers() {
			paired(t, a, b)
		}
		for _, way := range ways() {
			b := wrapped(a, int(way))
			if got := serial.Way(a, b); got != way {
				t.Errorf("Way(%d, %d): %d, not %d", a, b, got, way)
			}
			paired(t, a, b)
			paired(t, b, a)
		}
	}
}

// P10.1: the way is how many steps of one lead there.
func TestWayInSteps(t *testing.T) {
	for _, a := range []uint32{0, 5, half - 100, top - 100, top} {
		b := a
		for steps := range 300 {
			if way := serial.Way(a, b); way != uint32(steps) {
				t.Errorf("Way(%d, %d): %d, not %d", a, b, way, steps)
			}
			if serial.Add(a, steps) != b || serial.Add(b, -steps) != a || serial.Diff(b, a) != steps || serial.Diff(a, b) != -steps {
				t.Errorf("%d and %d: not %d steps apart", a, b, steps)
			}
			b = serial.Add(b, 1)
		}
	}
}

// P10.2: Newest and Oldest of lists of which they are known.
func TestKnownEnds(t *testing.T) {
	ends(t, nil, 0, 0, false)
	ends(t, []uint32{}, 0, 0, false)
	ends(t, make([]uint32, 0, 5), 0, 0, false)
	for _, n := range []uint32{0, 1, 5, half - 1, half, half + 1, top} {
		for count := range 5 {
			ends(t, slices.Repeat([]uint32{n}, count+1), n, n, true)
		}
	}
	for _, x := range []struct {
		l              []uint32
		newest, oldest uint32
	}{
		{[]uint32{top - 1, 1, top}, 1, top - 1}, // the chapter's
		{[]uint32{1, 2}, 2, 1}, {[]uint32{2, 1}, 2, 1}, {[]uint32{2, 1, 2, 1}, 2, 1},
		{[]uint32{7, 3, 9, 1, 9, 4, 1, 8}, 9, 1},
		{[]uint32{0, 0, 3, 0}, 3, 0}, {[]uint32{3, 0, 0}, 3, 0},
		{[]uint32{top, 0}, 0, top}, {[]uint32{0, top}, 0, top}, {[]uint32{0, top, 0, top}, 0, top},
		{[]uint32{3, top - 5, top, 0, 2}, 3, top - 5},
		{[]uint32{0, half - 1}, half - 1, 0}, {[]uint32{half - 1, 0}, half - 1, 0},
		{[]uint32{0, half + 1}, 0, half + 1}, {[]uint32{half + 1, 0}, 0, half + 1},
		// neither is after the other, so the first one stays
		{[]uint32{0, half}, 0, 0}, {[]uint32{half, 0}, half, half}, {[]uint32{9, half + 9, 9}, 9, 9}, {[]uint32{half + 9, 9, 9}, half + 9, half + 9},
		{[]uint32{top, half - 1}, top, top}, {[]uint32{half - 1, top}, half - 1, half - 1},
		// one between them leads on to the other
		{[]uint32{0, 1, half}, half, 0}, {[]uint32{0, half, 1}, 1, 0}, {[]uint32{half, 0, 1}, half, 1}, {[]uint32{half, 1, 0}, half, 0},
		{[]uint32{1, 0, half}, half, 0}, {[]uint32{1, half, 0}, half, 0}, {[]uint32{0, half + 1, half}, 0, half},
		// a third of the round apart: each is after one and ahead of one
		{[]uint32{0, 0x55555555, 0xaaaaaaaa}, 0xaaaaaaaa, 0xaaaaaaaa}, {[]uint32{0, 0xaaaaaaaa, 0x55555555}, 0x55555555, 0x55555555},
		{[]uint32{0x55555555, 0, 0xaaaaaaaa}, 0xaaaaaaaa, 0xaaaaaaaa}, {[]uint32{0x55555555, 0xaaaaaaaa, 0}, 0, 0},
		{[]uint32{0xaaaaaaaa, 0, 0x55555555}, 0x55555555, 0x55555555}, {[]uint32{0xaaaaaaaa, 0x55555555, 0}, 0, 0},
		{[]uint32{0, 0x55555555, 0xaaaaaaaa, 0}, 0, 0xaaaaaaaa}, {[]uint32{0, 0x55555555, 0xaaaaaaaa, 0, 0x55555555}, 0x55555555, 0x55555555},
	} {
		ends(t, x.l, x.newest, x.oldest, true)
	}
}

// P10.2: all short lists of numbers that lie about the ends of the round, half of it and a third of it apart, against the words.
func TestEnds(t *testing.T) {
	check := func(l []uint32) {
		newest, some := walked(l, isAfter)
		oldest, _ := walked(l, func(n, now uint32) bool { return isAfter(now, n) })
		ends(t, l, newest, oldest, some)
	}
	lists(nil, []uint32{0, 1, half - 1, half, half + 1, top}, 5, check)
	lists(nil, []uint32{5, 0x55555555, 0x55555556, 0xaaaaaaaa, 0xaaaaaaab, top - 3, half + 5}, 5, check)
	check(numbers())
	back := numbers()
	slices.Reverse(back)
	check(back)
	for _, n := range ways() { // long ones, that go round several times
		var l []uint32
		for i := range 500 {
			l = append(l, wrapped(n, i*0x3fffffff))
			check(l)
		}
	}
}

// The rules on memory: a list that is handed in isn't changed, nor its spare room.
func TestListIsLeft(t *testing.T) {
	l := []uint32{top - 1, 3, top, 0, 3, half, 7, 1 << 30, 9, top}
	was := slices.Clone(l)
	for from := range len(l) + 1 {
		for to := from; to <= len(l); to++ {
			serial.Newest(l[from:to]...)
			serial.Oldest(l[from:to]...)
			if !slices.Equal(l, was) {
				t.Fatalf("Newest, Oldest of %v: changed to %v", was, l)
			}
		}
	}
	ends(t, l, top, top, true)
}

// within: how far a list's numbers lie behind the one from which all lie nearest.
func within(l []uint32) uint32 {
	least := uint32(top)
	for _, from := range l {
		var most uint32
		for _, n := range l {
			most = max(most, uint32(wayOf(from, n)))
		}
		least = min(least, most)
	}
	return least
}

// P10.3: of lists within less than 2^31 of one another, in every order, all others are ahead of the newest one and after the oldest one.
func TestWithinHalf(t *testing.T) {
	for _, from := range []uint32{0, 5, half - 1, half, half + 1, top - 2, top, 0xc0000000, half - 4000} {
		for _, steps := range [][]uint32{
			{0}, {0, 1}, {0, half - 1}, {0, 1, 2, 3, 4, 5}, {0, 0, 0}, {0, 0, 1, 1}, {0, 7, 7, half - 1},
			{0, 1, half - 2, half - 1}, {0, 1 << 30, half - 1}, {0, 1<<30 - 1, 1 << 30, 1<<30 + 1, half - 1}, {0, 0, half - 1, half - 1, half - 1},
			{0, 3, 4000, 4001, 1 << 29, half - 1}, {0, half - 2}, {0, 2, 4, 6, 8, 10, 12},
		} {
			var l []uint32
			for _, n := range steps {
				l = append(l, wrapped(from, int(n)))
			}
			if within(l) >= half {
				t.Fatalf("%v: too far apart", l)
			}
			oldest, newest := l[0], l[len(l)-1]
			orders(l, func(l []uint32) {
				ends(t, l, newest, oldest, true)
				apart(t, l)
			})
		}
	}
}

// P10.3: all short lists that are as near as that, for their ends.
func TestAllWithinHalf(t *testing.T) {
	tried := 0
	lists(nil, []uint32{0, 1, 1 << 30, half - 1, half, 3 << 30, top - 1, top}, 5, func(l []uint32) {
		if len(l) > 0 && within(l) < half {
			apart(t, l)
			tried++
		}
	})
	if tried < 1000 {
		t.Errorf("just %d lists", tried)
	}
}

// apart: whether all of a list are ahead of its newest one, and after its oldest one, or are it.
func apart(t *testing.T, l []uint32) {
	t.Helper()
	newest, _ := serial.Newest(l...)
	oldest, _ := serial.Oldest(l...)
	if !slices.Contains(l, newest) || !slices.Contains(l, oldest) {
		t.Errorf("%v: newest %d, oldest %d, which aren't among them", l, newest, oldest)
	}
	for _, n := range l {
		if n != newest && !serial.After(newest, n) {
			t.Errorf("%v: newest %d, but %d isn't ahead of it", l, newest, n)
		}
		if n != oldest && !serial.After(n, oldest) {
			t.Errorf("%v: oldest %d, but %d isn't after it", l, oldest, n)
		}
	}
}

// P10.2: Run gives n numbers, also across 2^32; none of n below 1.
func TestRun(t *testing.T) {
	for _, x := range []struct {
		from uint32
		n    int
		want []uint32
	}{
		{0, 1, []uint32{0}}, {5, 1, []uint32{5}}, {top, 1, []uint32{top}}, {half, 1, []uint32{half}},
		{0, 3, []uint32{0, 1, 2}}, {5, 4, []uint32{5, 6, 7, 8}},
		{top, 3, []uint32{top, 0, 1}}, {top - 2, 5, []uint32{top - 2, top - 1, top, 0, 1}}, {top - 1, 2, []uint32{top - 1, top}},
		{half - 2, 4, []uint32{half - 2, half - 1, half, half + 1}},
	} {
		if got := given(serial.Run(x.from, x.n), 0); !slices.Equal(got, x.want) {
			t.Errorf("Run(%d, %d): %v, not %v", x.from, x.n, got, x.want)
		}
	}
	for _, from := range numbers() {
		for _, n := range []int{0, -1, -2, -half, -half - 1, -top, -round, -round + 1, -round - 1, math.MinInt, math.MinInt + 1} {
			seq := serial.Run(from, n)
			if seq == nil {
				t.Fatalf("Run(%d, %d) is nil", from, n)
			}
			if got := given(seq, 3); len(got) > 0 {
				t.Errorf("Run(%d, %d) gives %v", from, n, got)
			}
		}
	}
}

// P10.2: longer runs: as many, and each one step behind the one ahead of it.
func TestLongRuns(t *testing.T) {
	for _, from := range []uint32{0, 5, top - 70000, half - 3, top} {
		for _, n := range []int{2, 255, 256, 257, 65535, 65536, 65537, 200000} {
			got := given(serial.Run(from, n), 0)
			if len(got) != n {
				t.Errorf("Run(%d, %d): %d numbers", from, n, len(got))
			}
			for i, number := range got {
				if number != wrapped(from, i) {
					t.Fatalf("Run(%d, %d): number %d is %d", from, n, i, number)
				}
			}
		}
	}
	for _, n := range []int{half, half + 1, top, round, round + 1, 3*round + 2, math.MaxInt - 1, math.MaxInt} { // as many as nobody goes through
		if got := given(serial.Run(top, n), 5); !slices.Equal(got, []uint32{top, 0, 1, 2, 3}) {
			t.Errorf("Run(%d, %d), the first 5: %v", uint32(top), n, got)
		}
	}
}

// P10.2: a ranging over a run is left at each of its numbers, and it is given anew each time, also within a loop.
func TestRunIsRangedOver(t *testing.T) {
	for _, from := range []uint32{0, 9, half - 3, top - 3, top} {
		const n = 8
		seq := serial.Run(from, n)
		var want []uint32
		for i := range n {
			want = append(want, wrapped(from, i))
		}
		for most := 1; most <= n; most++ {
			if got := given(seq, most); !slices.Equal(got, want[:most]) {
				t.Errorf("Run(%d, %d), left at %d: %v", from, n, most, got)
			}
			if got := given(seq, 0); !slices.Equal(got, want) {
				t.Errorf("Run(%d, %d), behind a loop that was left at %d: %v", from, n, most, got)
			}
		}
		outer := 0
		for number := range seq {
			if number != want[outer] {
				t.Errorf("Run(%d, %d): number %d, with a loop in the loop: %d", from, n, outer, number)
			}
			outer++
			if inner := given(seq, outer); !slices.Equal(inner, want[:outer]) {
				t.Errorf("Run(%d, %d): a loop in the loop: %v", from, n, inner)
			}
		}
		if outer != n {
			t.Errorf("Run(%d, %d): %d numbers, with a loop in the loop", from, n, outer)
		}
	}
}

// P10.2: a loop that ends is asked no further.
func TestRunAsksNoFurther(t *testing.T) {
	for most := 1; most <= 5; most++ {
		asked := 0
		serial.Run(top-1, 5)(func(uint32) bool {
			asked++
			return asked < most
		})
		if asked != most {
			t.Errorf("left at %d: asked %d times", most, asked)
		}
	}
}
