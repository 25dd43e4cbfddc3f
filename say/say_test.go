package say_test

import (
	"encoding/hex"
	"fmt"
	"iter"
	"math"
	"math/big"
	"math/rand"
	"regexp"
	"slices"
	"strings"
	"testing"
	"unsafe"

	"cuneiform/api"
	"cuneiform/msg"
	"cuneiform/say"
)

// item: a field, as the words of chapter 16 have it, with its bounds, which are of how many there are where it's no number.
type item struct {
	name        string
	sort        byte // n of a number, p of a path, c of cells, t of a text, g of a tag
	least, most int
}

// place: what Words gives at once.
type place struct {
	at   int
	word string
}

// kinds: all there are.
var kinds = []int{1, 2, 3, 4, 5}

// far: the farthest x and y, to either side.
const far = 1000000

// kindWord: a kind's word.
func kindWord(kind int) string { return []string{"", "move", "hold", "grant", "pose", "fault"}[kind] }

// items: a kind's fields, in order, each written out.
func items(kind int) []item {
	robot := item{"robot", 'n', 0, 65535}
	return map[int][]item{
		1: {robot, {"speed", 'n', 1, 5000}, {"accel", 'n', 1, 10000}, {"path", 'p', 1, 16}, {"tag", 'g', 0, 16}},
		2: {robot, {"reason", 'n', 0, 15}, {"zone", 'n', 0, 4095}},
		3: {robot, {"zone", 'n', 0, 4095}, {"lease", 'n', 1, 255}, {"cells", 'c', 1, 32}},
		4: {
			robot, {"x", 'n', -far, far}, {"y", 'n', -far, far},
			{"heading", 'n', 0, 35999}, {"battery", 'n', 0, 1000}, {"sure", 'n', 0, 100},
		},
		5: {
			robot, {"code", 'n', 1, 9999}, {"severity", 'n', 0, 4},
			{"part", 'n', 0, 255}, {"times", 'n', 1, 1000000}, {"text", 't', 0, 64},
		},
	}[kind]
}

// sample: a right message of each kind, none of whose fields is as another one of it.
func sample(kind int) msg.Msg {
	return map[int]msg.Msg{
		1: {Kind: 1, N: [6]int{7, 100, 300}, Path: []msg.Point{{X: 1, Y: -2}, {X: far, Y: -far}, {X: 0, Y: 5}}, Tag: "a b"},
		2: {Kind: 2, N: [6]int{300, 2, 9}},
		3: {Kind: 3, N: [6]int{8, 12, 30}, Cells: []int{0, 5, 6, 65535}},
		4: {Kind: 4, N: [6]int{9, -5, 6, 18000, 900, 55}},
		5: {Kind: 5, N: [6]int{10, 404, 3, 17, 22}, Text: "lost ~ way"},
	}[kind]
}

// ends: a right message whose numbers are the least, or the greatest, and that has the least, or the most, of all else.
func ends(kind int, most bool) msg.Msg {
	m := msg.Msg{Kind: kind}
	for i, x := range items(kind) {
		n := x.least
		if most {
			n = x.most
		}
		sized(&m, i, n)
	}
	return m
}

// sized: the field at i of m's kind is so much: a number is it, of all else there are so many.
func sized(m *msg.Msg, i, n int) {
	switch x := items(m.Kind)[i]; x.sort {
	case 'n':
		m.N[i] = n // a kind's numbers are ahead of all else
	case 'p':
		m.Path = nil
		for k := range n {
			m.Path = append(m.Path, msg.Point{X: far - k, Y: k - far})
		}
	case 'c':
		m.Cells = nil
		for k := range n {
			m.Cells = append(m.Cells, k*k*64)
		}
	case 't':
		m.Text = strings.Repeat(" ~a", n)[:n]
	case 'g':
		m.Tag = strings.Repeat("~ z", n)[:n]
	}
}

// right: messages that are.
func right() []msg.Msg {
	var out []msg.Msg
	for _, k := range kinds {
		out = append(out, sample(k), ends(k, false), ends(k, true), msg.New(k))
	}
	return out
}

// with: a message, changed; the one that is handed in stays.
func with(m msg.Msg, changes ...func(m *msg.Msg)) msg.Msg {
	m.Path, m.Cells = slices.Clone(m.Path), slices.Clone(m.Cells)
	for _, change := range changes {
		change(&m)
	}
	return m
}

// told: a message as a text, so that two texts are one just where the messages are; nil and empty lists are one in it.
func told(m msg.Msg) string {
	return fmt.Sprintf("%d %v %d%v %d%v %q %q", m.Kind, m.N, len(m.Path), m.Path, len(m.Cells), m.Cells, m.Text, m.Tag)
}

// words: those of a message's line, by the chapter's words.
func words(m msg.Msg) []string {
	l := []string{kindWord(m.Kind)}
	for i, x := range items(m.Kind) {
		v := ""
		switch x.sort {
		case 'n':
			v = fmt.Sprint(m.N[i])
		case 'p':
			for _, p := range m.Path {
				v += fmt.Sprintf(";%d,%d", p.X, p.Y)
			}
			v = v[1:]
		case 'c':
			for _, c := range m.Cells {
				v += fmt.Sprintf(",%d", c)
			}
			v = v[1:]
		case 't':
			v = fmt.Sprintf("%x", m.Text)
		case 'g':
			v = fmt.Sprintf("%x", m.Tag)
		}
		if v == "" {
			v = "-"
		}
		l = append(l, x.name, v)
	}
	return l
}

// lined: words, with blanks between.
func lined(l ...string) string { return strings.Join(l, " ") }

// put: words, with another one at i; those that are handed in stay.
func put(l []string, i int, word string) []string {
	out := slices.Clone(l)
	out[i] = word
	return out
}

// What may be: a number's digits, a point's two parts, the digits of bytes.
var (
	digits = regexp.MustCompile(`^(0|-?[1-9][0-9]*)$`)
	parts  = regexp.MustCompile(`^[^,]*,[^,]*$`)
	pairs  = regexp.MustCompile(`^(-|([0-9a-f][0-9a-f])+)$`)
)

// number: the number of digits, by the words.
func number(s string) (int, api.Errno) {
	if !digits.MatchString(s) {
		return 0, api.ErrForm
	}
	n, _ := new(big.Int).SetString(s, 10)
	if !n.IsInt64() {
		return 0, api.ErrRange
	}
	return int(n.Int64()), api.OK
}

// numbers: those of digits, with commas between, by the words.
func numbers(s string) ([]int, api.Errno) {
	var l []int
	for _, x := range strings.Split(s, ",") {
		n, e := number(x)
		if e != api.OK {
			return nil, e
		}
		l = append(l, n)
	}
	return l, api.OK
}

// fill: the field at i of m's kind is what a word tells, by the words.
func fill(m *msg.Msg, i int, word string) (e api.Errno) {
	switch x := items(m.Kind)[i]; x.sort {
	case 'n':
		m.N[i], e = number(word)
	case 'p':
		for _, p := range strings.Split(word, ";") {
			if !parts.MatchString(p) {
				return api.ErrForm
			}
			l, e := numbers(p)
			if e != api.OK {
				return e
			}
			m.Path = append(m.Path, msg.Point{X: l[0], Y: l[1]})
		}
	case 'c':
		m.Cells, e = numbers(word)
	case 't', 'g':
		if !pairs.MatchString(word) {
			return api.ErrForm
		}
		b, _ := hex.DecodeString(strings.TrimPrefix(word, "-"))
		if x.sort == 't' {
			m.Text = string(b)
		} else {
			m.Tag = string(b)
		}
	}
	return e
}

// meant: the message of a line, by the words.
func meant(s string) (msg.Msg, api.Errno) {
	l := strings.Split(s, " ")
	kind := slices.IndexFunc(kinds, func(k int) bool { return kindWord(k) == l[0] }) + 1
	if kind == 0 {
		return msg.Msg{}, api.ErrKind
	}
	m, l := msg.Msg{Kind: kind}, l[1:]
	for i, x := range items(kind) {
		if len(l) > 0 && l[0] != x.name {
			return msg.Msg{}, api.ErrForm
		}
		if len(l) < 2 {
			return msg.Msg{}, api.ErrShort
		}
		if e := fill(&m, i, l[1]); e != api.OK {
			return msg.Msg{}, e
		}
		l = l[2:]
	}
	if len(l) > 0 {
		return msg.Msg{}, api.ErrMany
	}
	if e := msg.Check(m); e != api.OK {
		return msg.Msg{}, e
	}
	return m, api.OK
}

// either: one of two errors.
func either(is bool, e, otherwise api.Errno) api.Errno {
	if is {
		return e
	}
	return otherwise
}

// short: a text that is put beside a fault, cut if it's long.
func short(s string) string {
	if len(s) > 500 {
		return fmt.Sprintf("%q and so on, of %d bytes", s[:500], len(s))
	}
	return fmt.Sprintf("%q", s)
}

// tells: that a right message's line is just this, and that it's parsed back.
func tells(t *testing.T, m msg.Msg, want string) {
	t.Helper()
	before := told(m)
	if s := say.Line(m); s != want {
		t.Errorf("Line(%s): %q, not %q", before, s, want)
	}
	x, e := say.Parse(want)
	if e != api.OK || told(x) != before || !msg.Same(x, m) {
		t.Errorf("Parse(%q): %s, %d, not %s", want, told(x), e, before)
	}
	if told(m) != before {
		t.Errorf("%s was left as %s", before, told(m))
	}
}

// mute: that a message isn't right, for this reason, and has no line.
func mute(t *testing.T, m msg.Msg, want api.Errno) {
	t.Helper()
	before := told(m)
	if e := msg.Check(m); e != want {
		t.Fatalf("Check(%s): %d, not %d", before, e, want)
	}
	if s := say.Line(m); s != "" {
		t.Errorf("Line(%s): %q", before, s)
	}
	if told(m) != before {
		t.Errorf("%s was left as %s", before, told(m))
	}
}

// parses: that a text is parsed with this error; with none it is the message's line, with one nothing is given.
func parses(t *testing.T, s string, want api.Errno) {
	t.Helper()
	kept := strings.Clone(s)
	m, e := say.Parse(s)
	if e != want {
		t.Errorf("Parse(%s): %d, not %d", short(s), e, want)
	}
	if e != api.OK && told(m) != told(msg.Msg{}) {
		t.Errorf("Parse(%s): %s beside %d", short(s), told(m), e)
	}
	if e == api.OK && (say.Line(m) != s || msg.Check(m) != api.OK) {
		t.Errorf("Parse(%s): %s, whose line is %q", short(s), told(m), say.Line(m))
	}
	if s != kept {
		t.Errorf("%s was left as %s", short(kept), short(s))
	}
}

// asMeant: that a text is parsed as the words have it; what they have is answered.
func asMeant(t *testing.T, s string) (msg.Msg, api.Errno) {
	t.Helper()
	want, e := meant(s)
	parses(t, s, e)
	if m, _ := say.Parse(s); told(m) != told(want) {
		t.Errorf("Parse(%s): %s, not %s", short(s), told(m), told(want))
	}
	return want, e
}

// reads: that a text is read as this number, or with this error.
func reads(t *testing.T, s string, n int, want api.Errno) {
	t.Helper()
	got, e := say.Read(s)
	if got != n || e != want {
		t.Errorf("Read(%s): %d, %d, not %d, %d", short(s), got, e, n, want)
	}
	if e == api.OK && say.Number(got) != s {
		t.Errorf("Read(%q): %d, whose digits are %q", s, got, say.Number(got))
	}
}

// upTo: what a ranging gives, up to most of them.
func upTo(s iter.Seq2[int, string], most int) []place {
	var out []place
	for at, word := range s {
		if out = append(out, place{at, word}); len(out) == most {
			break
		}
	}
	return out
}

// P20.1, P20.2: the chapter's examples, and more that are written out.
func TestLines(t *testing.T) {
	for s, m := range map[string]msg.Msg{
		"hold robot 300 reason 2 zone 9":                                {Kind: 2, N: [6]int{300, 2, 9}},
		"hold robot 0 reason 0 zone 0":                                  {Kind: 2},
		"fault robot 1 code 2 severity 3 part 0 times 1 text 6869":      {Kind: 5, N: [6]int{1, 2, 3, 0, 1}, Text: "hi"},
		"fault robot 1 code 2 severity 3 part 4 times 5 text -":         {Kind: 5, N: [6]int{1, 2, 3, 4, 5}},
		"fault robot 1 code 2 severity 3 part 4 times 5 text 2d":        {Kind: 5, N: [6]int{1, 2, 3, 4, 5}, Text: "-"},
		"fault robot 1 code 2 severity 3 part 4 times 5 text 20202e":    {Kind: 5, N: [6]int{1, 2, 3, 4, 5}, Text: "  ."},
		"move robot 7 speed 1 accel 10000 path 0,0 tag -":               {Kind: 1, N: [6]int{7, 1, 10000}, Path: []msg.Point{{}}},
		"move robot 7 speed 5000 accel 1 path -1,2;3,-4;-5,-6 tag 207e": {Kind: 1, N: [6]int{7, 5000, 1}, Path: []msg.Point{{X: -1, Y: 2}, {X: 3, Y: -4}, {X: -5, Y: -6}}, Tag: " ~"},
		"move robot 7 speed 2 accel 3 path 5,5;5,5 tag 5a4a":            {Kind: 1, N: [6]int{7, 2, 3}, Path: []msg.Point{{X: 5, Y: 5}, {X: 5, Y: 5}}, Tag: "ZJ"},
		"grant robot 65535 zone 4095 lease 255 cells 0":                 {Kind: 3, N: [6]int{65535, 4095, 255}, Cells: []int{0}},
		"grant robot 1 zone 2 lease 3 cells 4,10,65535":                 {Kind: 3, N: [6]int{1, 2, 3}, Cells: []int{4, 10, 65535}},
		"pose robot 1 x -1000000 y 1000000 heading 2 battery 3 sure 4":  {Kind: 4, N: [6]int{1, -1000000, 1000000, 2, 3, 4}},
		"pose robot 1 x 10 y -10 heading 35999 battery 1000 sure 100":   {Kind: 4, N: [6]int{1, 10, -10, 35999, 1000, 100}},
	} {
		tells(t, m, s)
		if l := lined(words(m)...); l != s {
			t.Errorf("by the words: %q, not %q", l, s)
		}
	}
	for _, m := range right() {
		tells(t, m, lined(words(m)...))
	}
}

// P20.1, P20.2: the least and the most of each field, and what is next to them; what is beyond has no line, and is refused behind its parsing.
func TestBounds(t *testing.T) {
	for _, k := range kinds {
		for i, x := range items(k) {
			sizes := []int{x.least, x.least + 1, (x.least + x.most) / 2, x.most - 1, x.most}
			if x.sort == 'n' {
				sizes = append(sizes, max(x.least, 0), max(x.least, 9), max(x.least, 10))
			} else {
				sizes = nil
				for n := x.least; n <= x.most; n++ {
					sizes = append(sizes, n)
				}
			}
			for _, n := range sizes {
				m := with(sample(k), func(m *msg.Msg) { sized(m, i, min(n, x.most)) })
				tells(t, m, lined(words(m)...))
			}
			for _, n := range []int{x.most + 1, x.most + 2, 2 * x.most} {
				m := with(sample(k), func(m *msg.Msg) { sized(m, i, n) })
				want := api.ErrMany
				if x.sort == 'n' {
					want = api.ErrRange
				}
				mute(t, m, want)
				parses(t, lined(words(m)...), want)
			}
		}
	}
}

// P20.1, P20.2: numbers of a field that are beyond it, and no int's bounds; the least and the greatest int, and what 16 and 32 bits don't hold.
func TestBeyond(t *testing.T) {
	for _, k := range kinds {
		for i, x := range items(k) {
			if x.sort != 'n' {
				continue
			}
			for _, n := range []int{x.least - 1, -1 << 31, -1 << 32, 1 << 31, 1<<32 + 1, math.MinInt, math.MinInt + 1, math.MaxInt - 1, math.MaxInt} {
				m := with(sample(k), func(m *msg.Msg) { m.N[i] = n })
				mute(t, m, api.ErrRange)
				parses(t, lined(words(m)...), api.ErrRange)
			}
		}
	}
	for _, n := range []int{far + 1, -far - 1, math.MinInt, math.MaxInt, 1<<32 + 1} {
		for _, change := range []func(m *msg.Msg){
			func(m *msg.Msg) { m.Path[0].X = n }, func(m *msg.Msg) { m.Path[0].Y = n },
			func(m *msg.Msg) { m.Path[2].X = n }, func(m *msg.Msg) { m.Path[2].Y = n },
		} {
			m := with(sample(1), change)
			mute(t, m, api.ErrRange)
			parses(t, lined(words(m)...), api.ErrRange)
		}
	}
	for _, n := range []int{-1, 65536, math.MinInt, math.MaxInt, 1<<32 + 1} {
		for i := range 4 {
			m := with(sample(3), func(m *msg.Msg) { m.Cells[i] = n })
			mute(t, m, msg.Check(m)) // ErrForm of one behind another that is greater is behind its own ErrRange
			parses(t, lined(words(m)...), msg.Check(m))
		}
	}
}

// P20.1, P20.2: texts and tags of each byte, at each place: those that may be are told, others have no line, and are refused behind their parsing.
func TestBytes(t *testing.T) {
	for b := range 256 {
		for n := 1; n <= 4; n++ {
			for at := range n {
				l := []byte("abcd")[:n]
				l[at] = byte(b)
				for _, m := range []msg.Msg{
					with(sample(5), func(m *msg.Msg) { m.Text = string(l) }),
					with(sample(1), func(m *msg.Msg) { m.Tag = string(l) }),
				} {
					if b >= 32 && b <= 126 {
						tells(t, m, lined(words(m)...))
						continue
					}
					mute(t, m, api.ErrText)
					parses(t, lined(words(m)...), api.ErrText)
				}
			}
		}
	}
	for _, s := range []string{"é", "日本", "a\u2028b", "\u00a0"} { // runes, whose bytes may not be
		mute(t, with(sample(5), func(m *msg.Msg) { m.Text = s }), api.ErrText)
		mute(t, with(sample(1), func(m *msg.Msg) { m.Tag = s }), api.ErrText)
	}
}

// P20.1: no line of a message that isn't right, with each of Check's errors.
func TestNotRight(t *testing.T) {
	mute(t, msg.Msg{}, api.ErrKind)
	for _, k := range []int{0, 6, -1, 255, 256, 257, 1<<32 + 1, 1<<32 + 2, math.MinInt, math.MaxInt} {
		mute(t, with(sample(2), func(m *msg.Msg) { m.Kind = k }), api.ErrKind)
	}
	mute(t, with(sample(1), func(m *msg.Msg) { m.Path = nil }), api.ErrShort)
	mute(t, with(sample(1), func(m *msg.Msg) { m.Path = []msg.Point{} }), api.ErrShort)
	mute(t, with(sample(3), func(m *msg.Msg) { m.Cells = nil }), api.ErrShort)
	mute(t, with(sample(3), func(m *msg.Msg) { m.Cells = []int{} }), api.ErrShort)
	mute(t, with(sample(3), func(m *msg.Msg) { m.Cells = []int{5, 5} }), api.ErrForm)
	mute(t, with(sample(3), func(m *msg.Msg) { m.Cells = []int{5, 6, 4} }), api.ErrForm)
	for _, k := range kinds {
		for i := len(words(sample(k))) / 2; i < 6; i++ {
			mute(t, with(sample(k), func(m *msg.Msg) { m.N[i] = 1 }), api.ErrForm)
		}
		l := items(k)
		last := l[len(l)-1].sort
		if last != 'g' {
			mute(t, with(sample(k), func(m *msg.Msg) { m.Path = []msg.Point{{}} }), api.ErrForm)
			mute(t, with(sample(k), func(m *msg.Msg) { m.Tag = "a" }), api.ErrForm)
		}
		if last != 'c' {
			mute(t, with(sample(k), func(m *msg.Msg) { m.Cells = []int{0} }), api.ErrForm)
		}
		if last != 't' {
			mute(t, with(sample(k), func(m *msg.Msg) { m.Text = "a" }), api.ErrForm)
		}
	}
	many := msg.Msg{Kind: 1, N: [6]int{1, 1, 1}, Path: make([]msg.Point, 1<<20)}
	mute(t, many, api.ErrMany)
	mute(t, msg.Msg{Kind: 3, N: [6]int{1, 1, 1}, Cells: make([]int, 1<<20)}, api.ErrMany)
	mute(t, msg.Msg{Kind: 5, N: [6]int{1, 1, 1, 1, 1}, Text: strings.Repeat("a", 1<<20)}, api.ErrMany)
}

// gives: that the words of a text are just these, left at each place, ranged over again and within.
func gives(t *testing.T, s string, want []place) {
	t.Helper()
	l := say.Words(s)
	if l == nil {
		t.Fatalf("Words(%q) is nil", s)
	}
	for n := 1; n <= len(want)+1; n++ {
		if got := upTo(l, n); !slices.Equal(got, want[:min(n, len(want))]) {
			t.Errorf("Words(%q), left at %d: %v", s, n, got)
		}
		if got := upTo(l, -1); !slices.Equal(got, want) {
			t.Errorf("Words(%q), ranged over again: %v, not %v", s, got, want)
		}
	}
	var outer []place
	for at, word := range l {
		outer = append(outer, place{at, word})
		if got := upTo(l, len(outer)); !slices.Equal(got, want[:min(len(outer), len(want))]) {
			t.Errorf("Words(%q), within at %d: %v", s, len(outer), got)
		}
		if got := upTo(l, -1); !slices.Equal(got, want) {
			t.Errorf("Words(%q), within: %v", s, got)
		}
	}
	if !slices.Equal(outer, want) {
		t.Errorf("Words(%q), with others within: %v, not %v", s, outer, want)
	}
}

// P20.1: words and their places, written out: without any, of one, of blanks alone, at the beginning, at the end and behind one another; what isn't a blank doesn't part them.
func TestWords(t *testing.T) {
	for s, want := range map[string][]place{
		"":            {{0, ""}},
		"a":           {{0, "a"}},
		"abc":         {{0, "abc"}},
		" ":           {{0, ""}, {1, ""}},
		"  ":          {{0, ""}, {1, ""}, {2, ""}},
		"    ":        {{0, ""}, {1, ""}, {2, ""}, {3, ""}, {4, ""}},
		"a b":         {{0, "a"}, {2, "b"}},
		"ab c def":    {{0, "ab"}, {3, "c"}, {5, "def"}},
		" a":          {{0, ""}, {1, "a"}},
		"  ab":        {{0, ""}, {1, ""}, {2, "ab"}},
		"a ":          {{0, "a"}, {2, ""}},
		"ab  ":        {{0, "ab"}, {3, ""}, {4, ""}},
		"a  b":        {{0, "a"}, {2, ""}, {3, "b"}},
		"a   b":       {{0, "a"}, {2, ""}, {3, ""}, {4, "b"}},
		" a  b ":      {{0, ""}, {1, "a"}, {3, ""}, {4, "b"}, {6, ""}},
		"a\tb\nc\rd":  {{0, "a\tb\nc\rd"}},
		"a\u00a0b":    {{0, "a\u00a0b"}},
		"a\x00 \xffb": {{0, "a\x00"}, {3, "\xffb"}},
		"é 日 x":       {{0, "é"}, {3, "日"}, {7, "x"}}, // places are counted in bytes
		"\xc3 \xa0":   {{0, "\xc3"}, {2, "\xa0"}},
		"hold robot 300 reason 2 zone 9": {
			{0, "hold"}, {5, "robot"}, {11, "300"}, {15, "reason"}, {22, "2"}, {24, "zone"}, {29, "9"},
		},
	} {
		gives(t, s, want)
	}
}

// P20.1: words of all texts of up to eight signs, of a blank and a letter, and of long ones.
func TestAllWords(t *testing.T) {
	meant := func(s string) []place {
		var l []place
		at := 0
		for _, word := range strings.Split(s, " ") {
			l = append(l, place{at, word})
			at += len(word) + 1
		}
		return l
	}
	for n := range 9 {
		for row := range 1 << n {
			b := []byte(strings.Repeat("a", n))
			for i := range n {
				if row>>i&1 == 1 {
					b[i] = ' '
				}
			}
			gives(t, string(b), meant(string(b)))
		}
	}
	for _, s := range []string{strings.Repeat(" ", 100000), strings.Repeat("a", 100000), strings.Repeat("abc ", 100000), strings.Repeat(" abc", 100000)} {
		if l := upTo(say.Words(s), -1); !slices.Equal(l, meant(s)) {
			t.Errorf("Words(%s): %d words", short(s), len(l))
		}
	}
}

// P20.1: digits and numbers, written out, both ways.
func TestNumbers(t *testing.T) {
	for s, n := range map[string]int{
		"0": 0, "1": 1, "-1": -1, "9": 9, "10": 10, "-9": -9, "-10": -10, "100": 100, "-1000000": -1000000, "65535": 65535,
		"2147483647": 1<<31 - 1, "2147483648": 1 << 31, "-2147483648": -1 << 31, "-2147483649": -1<<31 - 1, "4294967296": 1 << 32,
		"9223372036854775807": math.MaxInt, "9223372036854775806": math.MaxInt - 1, "9223372036854775799": math.MaxInt - 8,
		"-9223372036854775808": math.MinInt, "-9223372036854775807": math.MinInt + 1, "-9223372036854775799": math.MinInt + 9,
		"1000000000000000000": 1000000000000000000, "-1000000000000000000": -1000000000000000000,
	} {
		reads(t, s, n, api.OK)
		if d := say.Number(n); d != s {
			t.Errorf("Number(%d): %q, not %q", n, d, s)
		}
	}
	r := rand.New(rand.NewSource(20))
	for range 20000 {
		n := int(r.Uint64()) >> r.Intn(64)
		if d := say.Number(n); d != fmt.Sprint(n) {
			t.Errorf("Number(%d): %q", n, d)
		}
		reads(t, fmt.Sprint(n), n, api.OK)
	}
}

// P20.1: what isn't digits, what has needless ones, and what is beyond what an int holds.
func TestReadErrors(t *testing.T) {
	for _, s := range []string{
		"", "-", "--", "-0", "+0", "+1", "00", "01", "-00", "-01", "0-", "1-", "--1", "-+1", "+-1", "000", "010", "-010",
		" ", " 1", "1 ", "- 1", "1 2", "\t1", "1\n", "1\x00", "\x001", "a", "f", "1a", "a1", "0x1", "0b1", "0o7", "1e3", "1.0", ".5", "1_0", "1,0", "1;0",
		"٣", "１", "−1", "\xff", "/", ":", "1/", "1:", "é", "inf", "NaN", "0a", "-a",
		"9223372036854775808a", "a9223372036854775808", "09223372036854775808", "-09223372036854775809", "--9223372036854775809",
		"9223372036854775808 ", "99999999999999999999-", "+9223372036854775808",
		strings.Repeat("0", 100000), "-" + strings.Repeat("0", 100000), strings.Repeat("9", 100000) + "a", "0" + strings.Repeat("9", 100000),
		strings.Repeat("a", 100000), strings.Repeat("-", 100000), strings.Repeat(" ", 100000), strings.Repeat("9", 50000) + "_" + strings.Repeat("9", 50000),
	} {
		reads(t, s, 0, api.ErrForm)
	}
	for _, s := range []string{
		"9223372036854775808", "-9223372036854775809", "9223372036854775809", "-9223372036854775810", "9223372036854775817", "9300000000000000000",
		"10000000000000000000", "-10000000000000000000", "18446744073709551615", "18446744073709551616", "18446744073709551617", "-18446744073709551615",
		"36893488147419103232", "99999999999999999999", "-99999999999999999999", "340282366920938463463374607431768211457",
		strings.Repeat("9", 100000), "-" + strings.Repeat("9", 100000), "1" + strings.Repeat("0", 100000),
	} {
		reads(t, s, 0, api.ErrRange)
	}
}

// P20.1: all texts of up to five signs, of some that make a difference, and all of up to two bytes.
func TestReadAll(t *testing.T) {
	rows := []string{""}
	for last := rows; len(last[0]) < 5; {
		var next []string
		for _, s := range last {
			for _, c := range []string{"-", "0", "1", "9", "+", " ", ",", "a", "/", ":"} {
				next = append(next, s+c)
			}
		}
		rows, last = append(rows, next...), next
	}
	for a := range 256 {
		rows = append(rows, string([]byte{byte(a)}))
		for b := range 256 {
			rows = append(rows, string([]byte{byte(a), byte(b)}))
		}
	}
	for _, s := range rows {
		n, e := number(s)
		reads(t, s, n, e)
	}
}

// P20.1: digits next to the bounds of an int, and those with a sign that was changed, put in or taken out.
func TestReadNear(t *testing.T) {
	r := rand.New(rand.NewSource(63))
	for _, bound := range []int64{math.MaxInt64, math.MinInt64} {
		for d := int64(-2000); d <= 2000; d++ {
			s := new(big.Int).Add(big.NewInt(bound), big.NewInt(d)).String()
			for _, x := range []string{s, s + "0", s + "5", s[:len(s)-1], "0" + s, "-" + s, strings.TrimPrefix(s, "-")} {
				n, e := number(x)
				reads(t, x, n, e)
			}
			b := []byte(s)
			b[r.Intn(len(b))] = "-0123456789 a"[r.Intn(13)]
			n, e := number(string(b))
			reads(t, string(b), n, e)
		}
	}
}

// P20.2: a first word that is no kind's, ahead of whatever is behind it.
func TestKinds(t *testing.T) {
	for _, first := range []string{
		"", "x", "Hold", "HOLD", "holds", "hol", "hold\t", "hold\n", "hold,", "\thold", "hold-", "2", "robot", "moves", "mov", "grants", "posed", "faul", "event", "hold\x00", "hold\u00a0",
		"link", "send", "-", "0", "\xff", strings.Repeat("hold", 10000),
	} {
		parses(t, first, api.ErrKind)
		parses(t, first+" ", api.ErrKind)
		parses(t, first+" hold", api.ErrKind)
		for _, m := range right() {
			l := words(m)
			for n := 1; n <= len(l); n++ {
				parses(t, lined(put(l, 0, first)[:n]...), api.ErrKind)
				parses(t, lined(append([]string{first}, l[:n]...)...), api.ErrKind)
			}
			parses(t, lined(put(l, 0, first)...)+" x", api.ErrKind)
			parses(t, lined(put(put(l, 0, first), 1, "x")...), api.ErrKind)
			parses(t, lined(put(put(l, 0, first), 2, "x")...), api.ErrKind)
		}
	}
	for _, k := range kinds { // another kind's word, with fields that aren't its own
		for _, other := range kinds {
			if k != other {
				parses(t, lined(put(words(sample(k)), 0, kindWord(other))...), api.ErrForm)
			}
		}
	}
}

// P20.2: too few words, at each place; a blank at the end is one more, which is empty.
func TestShort(t *testing.T) {
	for _, m := range right() {
		l := words(m)
		for n := 1; n < len(l); n++ {
			parses(t, lined(l[:n]...), api.ErrShort)
			parses(t, lined(l[:n]...)+" ", api.ErrForm) // another name, or no value that may be
		}
		parses(t, lined(l...), api.OK)
	}
}

// P20.2: other names, at each place, whatever is behind them; also one name in another's place, and two that are exchanged.
func TestNames(t *testing.T) {
	for _, k := range kinds {
		l := words(sample(k))
		for i := 1; i < len(l); i += 2 {
			for _, name := range []string{"", "x", "y", "robot", "zone", "text", "tag", "path", "cells", "-", "0", l[i] + "s", l[i][1:], strings.ToUpper(l[i]), l[i] + "\t", l[i] + "=", " ", l[0]} {
				if name == l[i] {
					continue
				}
				parses(t, lined(put(l, i, name)...), api.ErrForm)
				parses(t, lined(put(l, i, name)[:i+1]...), api.ErrForm) // ahead of that its value lacks
				parses(t, lined(put(put(l, i, name), i+1, "99999999999999999999")...), api.ErrForm)
				parses(t, lined(put(l, i, name)...)+" x", api.ErrForm)
			}
			for j := i + 2; j < len(l); j += 2 {
				parses(t, lined(put(put(l, i, l[j]), j, l[i])...), api.ErrForm)
				parses(t, lined(put(put(put(put(l, i, l[j]), j, l[i]), i+1, l[j+1]), j+1, l[i+1])...), api.ErrForm)
			}
			parses(t, lined(slices.Delete(slices.Clone(l), i, i+2)...), either(i+2 == len(l), api.ErrShort, api.ErrForm))
			parses(t, lined(slices.Insert(slices.Clone(l), i, l[i], l[i+1])...), either(i+2 == len(l), api.ErrMany, api.ErrForm))
			parses(t, lined(slices.Insert(slices.Clone(l), i, "")...), api.ErrForm) // two blanks behind one another
		}
	}
}

// wrongNumbers: texts that are no number's digits, each with its error.
func wrongNumbers() map[string]api.Errno {
	return map[string]api.Errno{
		"": api.ErrForm, "-": api.ErrForm, "-0": api.ErrForm, "+1": api.ErrForm, "00": api.ErrForm, "01": api.ErrForm, "-01": api.ErrForm,
		"x": api.ErrForm, "1x": api.ErrForm, "1\t": api.ErrForm, "1.0": api.ErrForm, "1e1": api.ErrForm, "0x1": api.ErrForm, "1_0": api.ErrForm, "٣": api.ErrForm,
		"9223372036854775808": api.ErrRange, "-9223372036854775809": api.ErrRange, "99999999999999999999": api.ErrRange, "-18446744073709551617": api.ErrRange,
	}
}

// P20.2: of each number a value that is none, with Read's error.
func TestNumberValues(t *testing.T) {
	for _, k := range kinds {
		l := words(sample(k))
		for i, x := range items(k) {
			if x.sort != 'n' {
				continue
			}
			for s, want := range wrongNumbers() {
				parses(t, lined(put(l, 2+2*i, s)...), want)
				parses(t, lined(put(l, 2+2*i, s)[:3+2*i]...), want) // ahead of what lacks
				parses(t, lined(put(l, 2+2*i, s)...)+" x", want)
			}
			for _, s := range []string{"1,2", "1;2", ",", ";", "1,", l[2+2*i] + ",1"} {
				parses(t, lined(put(l, 2+2*i, s)...), api.ErrForm)
			}
		}
	}
}

// path: a move's line with this path.
func path(s string) string { return "move robot 1 speed 2 accel 3 path " + s + " tag 7e" }

// P20.2: points of other than two parts, and with parts that are no numbers; the first that is wrong from the left is told.
func TestPathValues(t *testing.T) {
	const great, low = "9223372036854775808", "-9223372036854775809"
	for s, want := range map[string]api.Errno{
		"1,2": api.OK, "1,2;3,4": api.OK, "-1,-2;0,0": api.OK, "0,0;0,0": api.OK,
		"": api.ErrForm, "1": api.ErrForm, "1,2,3": api.ErrForm, ",": api.ErrForm, ",,": api.ErrForm, ";": api.ErrForm, ";;": api.ErrForm,
		"1,": api.ErrForm, ",1": api.ErrForm, "1,2;": api.ErrForm, ";1,2": api.ErrForm, "1,2;;3,4": api.ErrForm, "1;2": api.ErrForm, "1;2,3": api.ErrForm,
		"1,2;3": api.ErrForm, "1,2;3,": api.ErrForm, "1,2;,3": api.ErrForm, "1,2;3,4,5": api.ErrForm, "1,2,;3,4": api.ErrForm, "1.2": api.ErrForm, "1,2:3,4": api.ErrForm, "1,2.3,4": api.ErrForm,
		"-": api.ErrForm, "-,-": api.ErrForm, "01,2": api.ErrForm, "1,02": api.ErrForm, "-0,1": api.ErrForm, "1,-0": api.ErrForm, "+1,2": api.ErrForm, "1,+2": api.ErrForm, "x,1": api.ErrForm, "1,x": api.ErrForm,
		great + ",1": api.ErrRange, "1," + great: api.ErrRange, low + ",1": api.ErrRange, "1," + low: api.ErrRange,
		great + ",x": api.ErrRange, "x," + great: api.ErrForm, // the first part, then the second one
		great + "," + low: api.ErrRange, great + ",": api.ErrRange, "," + great: api.ErrForm,
		great: api.ErrForm, great + ",1,2": api.ErrForm, "1," + great + ",2": api.ErrForm, "1,2," + great: api.ErrForm, // two parts go ahead of what they are
		great + ",1;2": api.ErrRange, "1," + great + ";2": api.ErrRange, "1,2;" + great + ",1;2": api.ErrRange, // a wrong number ahead of a wrong point
		"2;" + great + ",1": api.ErrForm, "1,2,3;1," + great: api.ErrForm, ";" + great + ",1": api.ErrForm, "1,2;3;" + great + ",1": api.ErrForm, // and behind it
		"x,1;" + great + ",1": api.ErrForm, great + ",1;x,1": api.ErrRange, "1,x;1," + great: api.ErrForm, "1," + great + ";1,x": api.ErrRange,
		"1000000,-1000000": api.OK, "1000001,0": api.ErrRange, "0,-1000001": api.ErrRange, "1000001,0;x": api.ErrForm, "9223372036854775807,0": api.ErrRange, "0,-9223372036854775808": api.ErrRange,
		strings.Repeat("1,2;", 15) + "1,2": api.OK, strings.Repeat("1,2;", 16) + "1,2": api.ErrMany, strings.Repeat("1,2;", 16) + "1": api.ErrForm, strings.Repeat("1,2;", 16) + great + ",1": api.ErrRange,
		strings.Repeat("1,2;", 16) + "1000001,2": api.ErrMany, strings.Repeat("1,2;", 100000) + "1,2": api.ErrMany, strings.Repeat("1,2;", 100000): api.ErrForm,
	} {
		parses(t, path(s), want)
		if want != api.OK {
			parses(t, path(s)+" x", either(fill(&msg.Msg{Kind: 1}, 3, s) != api.OK, want, api.ErrMany))
			parses(t, "move robot 1 speed 2 accel 3 path "+s, either(fill(&msg.Msg{Kind: 1}, 3, s) != api.OK, want, api.ErrShort))
		}
	}
	for s, want := range wrongNumbers() {
		parses(t, path(s+",1"), want)
		parses(t, path("1,"+s), want)
		parses(t, path("0,0;"+s+",1;1,1"), want)
		parses(t, path("0,0;1,1;1,"+s), want)
	}
}

// cells: a grant's line with these cells.
func cells(s string) string { return "grant robot 1 zone 2 lease 3 cells " + s }

// P20.2: cells with numbers that are none, at the beginning, in the middle, at the end; those that may not be are refused behind them.
func TestCellValues(t *testing.T) {
	const great = "9223372036854775808"
	many := "0"
	for i := 1; i < 32; i++ {
		many += fmt.Sprintf(",%d", i)
	}
	for s, want := range map[string]api.Errno{
		"0": api.OK, "1,2": api.OK, "0,65535": api.OK, "9,10,100": api.OK, many: api.OK,
		"": api.ErrForm, ",": api.ErrForm, ",,": api.ErrForm, ",1": api.ErrForm, "1,": api.ErrForm, "1,,2": api.ErrForm, "1,2,": api.ErrForm, ",1,2": api.ErrForm, "-": api.ErrForm, ";": api.ErrForm, "1;2": api.ErrForm, "1.2": api.ErrForm, "1,2;3,4": api.ErrForm,
		great: api.ErrRange, great + ",x": api.ErrRange, "x," + great: api.ErrForm, "," + great: api.ErrForm, great + ",": api.ErrRange, "1," + great + ",": api.ErrRange, "1,," + great: api.ErrForm,
		"2,1": api.ErrForm, "1,1": api.ErrForm, "1,3,2": api.ErrForm, "2,1," + great: api.ErrRange, "2,1,x": api.ErrForm,
		"-1": api.ErrRange, "65536": api.ErrRange, "1,65536": api.ErrRange, "1,-1": api.ErrRange, "65536,x": api.ErrForm, "2,1,65536": api.ErrForm, "65536,1": api.ErrRange, "1,9223372036854775807": api.ErrRange,
		many + ",32": api.ErrMany, many + ",1": api.ErrMany, many + ",-1": api.ErrMany, many + ",x": api.ErrForm, many + "," + great: api.ErrRange, many + ",": api.ErrForm,
		strings.Repeat("1,", 100000) + "1": api.ErrMany, strings.Repeat("1,", 100000): api.ErrForm, strings.Repeat(",", 100000): api.ErrForm,
	} {
		parses(t, cells(s), want)
		if want != api.OK {
			parses(t, cells(s)+" x", either(fill(&msg.Msg{Kind: 3}, 3, s) != api.OK, want, api.ErrMany))
		}
	}
	for s, want := range wrongNumbers() {
		for _, x := range []string{s, s + ",1", "1," + s, "0," + s + ",1", "0,1," + s} {
			parses(t, cells(x), want)
		}
	}
}

// P20.2: texts and tags that aren't two digits for each byte, nor -; those that may not be are refused behind them.
func TestTextValues(t *testing.T) {
	for s, want := range map[string]api.Errno{
		"-": api.OK, "20": api.OK, "7e": api.OK, "6869": api.OK, "2d": api.OK, "4a4f": api.OK, "5A": api.ErrForm,
		"": api.ErrForm, "--": api.ErrForm, "---": api.ErrForm, "2": api.ErrForm, "6": api.ErrForm, "a": api.ErrForm, "686": api.ErrForm, "68697": api.ErrForm,
		"7E": api.ErrForm, "4A": api.ErrForm, "4a4F": api.ErrForm, "A4": api.ErrForm, "F0": api.ErrForm, "6G": api.ErrForm, "6g": api.ErrForm, "g6": api.ErrForm, "hi": api.ErrForm, "0x": api.ErrForm, "0x20": api.ErrForm,
		"-20": api.ErrForm, "20-": api.ErrForm, "-2": api.ErrForm, "2-": api.ErrForm, "+2": api.ErrForm, "20,": api.ErrForm, "20,20": api.ErrForm, "2\t": api.ErrForm, "\t2": api.ErrForm, "2\x00": api.ErrForm, "20\n": api.ErrForm,
		"6/": api.ErrForm, "6:": api.ErrForm, "6`": api.ErrForm, "/6": api.ErrForm, ":6": api.ErrForm, "`6": api.ErrForm, "é": api.ErrForm, "20é": api.ErrForm, "\xff\xff": api.ErrForm, "６６": api.ErrForm,
		"7f": api.ErrText, "1f": api.ErrText, "00": api.ErrText, "ff": api.ErrText, "80": api.ErrText, "207f": api.ErrText, "0a": api.ErrText, "7f2": api.ErrForm, "7fx0": api.ErrForm, "c3a9": api.ErrText,
		strings.Repeat("7e", 16): api.OK, strings.Repeat("7e", 65): api.ErrMany, strings.Repeat("7f", 65): api.ErrMany, strings.Repeat("7e", 64) + "7": api.ErrForm, strings.Repeat("7e", 65) + "7E": api.ErrForm,
		strings.Repeat("7e", 100000): api.ErrMany, strings.Repeat("7e", 100000) + "x": api.ErrForm, strings.Repeat("7e", 100000) + "xx": api.ErrForm,
	} {
		tag, text := "move robot 1 speed 2 accel 3 path 0,0 tag "+s, "fault robot 1 code 2 severity 3 part 4 times 5 text "+s
		for _, line := range []string{tag, text} {
			parses(t, line, want)
			if want != api.OK {
				parses(t, line+" x", either(!pairs.MatchString(s), want, api.ErrMany))
			}
		}
	}
	for a := range 256 {
		for b := range 256 {
			s := string([]byte{byte(a), byte(b)})
			asMeant(t, "fault robot 1 code 2 severity 3 part 4 times 5 text "+s)
			asMeant(t, "move robot 1 speed 2 accel 3 path 0,0 tag 20"+s)
		}
	}
	most, tag := strings.Repeat("7e", 64), strings.Repeat("7e", 16)
	parses(t, "fault robot 1 code 2 severity 3 part 4 times 5 text "+most, api.OK)
	parses(t, "move robot 1 speed 2 accel 3 path 0,0 tag "+tag+"7e", api.ErrMany)
}

// P20.2: too many words, also by a blank at the end, behind all that was parsed and ahead of Check's errors.
func TestMany(t *testing.T) {
	for _, m := range right() {
		s := lined(words(m)...)
		for _, more := range []string{" ", "  ", " x", " robot", " robot 1", " 0", " -", " " + s, strings.Repeat(" ", 100000)} {
			parses(t, s+more, api.ErrMany)
		}
		for _, more := range []string{"\n", "\t", "\x00", ";", ",", "-", "x", "\u00a0"} { // of the last word
			if _, e := asMeant(t, s+more); e != api.ErrForm {
				t.Errorf("%q: %d", s+more, e)
			}
		}
	}
	for _, x := range checks() {
		parses(t, lined(put(words(sample(x.kind)), x.at, x.word)...), x.e)
		parses(t, lined(put(words(sample(x.kind)), x.at, x.word)...)+" ", api.ErrMany)
	}
}

// fault: a word of a kind's line, at a place, with which it has this error.
type fault struct {
	kind, at int
	word     string
	e        api.Errno
}

// checks: faults that Check tells, behind all others.
func checks() []fault {
	var out []fault
	for _, k := range kinds {
		for i, x := range items(k) {
			at := 2 + 2*i
			switch x.sort {
			case 'n':
				out = append(out, fault{k, at, fmt.Sprint(x.most + 1), api.ErrRange}, fault{k, at, fmt.Sprint(x.least - 1), api.ErrRange})
			case 'p':
				out = append(out, fault{k, at, strings.Repeat("0,0;", 16) + "0,0", api.ErrMany}, fault{k, at, "0,0;0,1000001", api.ErrRange})
			case 'c':
				out = append(out, fault{k, at, strings.Repeat("0,", 32) + "0", api.ErrMany}, fault{k, at, "0,65536", api.ErrRange}, fault{k, at, "1,1", api.ErrForm})
			case 't', 'g':
				out = append(out, fault{k, at, strings.Repeat("61", 65), api.ErrMany}, fault{k, at, "7f", api.ErrText})
			}
		}
	}
	return out
}

// forms: faults that are told while a line is parsed, from the left.
func forms() []fault {
	var out []fault
	for _, k := range kinds {
		out = append(out, fault{k, 0, "robot", api.ErrKind})
		for i, x := range items(k) {
			at := 2 + 2*i
			out = append(out, fault{k, at - 1, "name", api.ErrForm}, fault{k, at, "", api.ErrForm}, fault{k, at, "x", api.ErrForm})
			switch x.sort {
			case 'n', 'c':
				out = append(out, fault{k, at, "9223372036854775808", api.ErrRange})
			case 'p':
				out = append(out, fault{k, at, "1,9223372036854775808", api.ErrRange})
			}
		}
	}
	return out
}

// P20.2: of two things that are wrong the first from the left is told; what Check tells is behind all others, and is field by field, too.
func TestOrder(t *testing.T) {
	for _, a := range forms() {
		l := put(words(sample(a.kind)), a.at, a.word)
		parses(t, lined(l...), a.e)
		parses(t, lined(l...)+" ", a.e)
		parses(t, lined(l[:a.at+1]...), a.e)
		for _, b := range slices.Concat(forms(), checks()) {
			if b.kind == a.kind && b.at > a.at {
				parses(t, lined(put(l, b.at, b.word)...), a.e)
			}
		}
	}
	for _, a := range checks() {
		l := put(words(sample(a.kind)), a.at, a.word)
		for n := 1; n < len(l); n++ {
			parses(t, lined(l[:n]...), api.ErrShort)
		}
		for _, b := range forms() {
			if b.kind == a.kind && b.at != a.at {
				parses(t, lined(put(l, b.at, b.word)...), b.e)
			}
		}
		for _, b := range checks() {
			if b.kind == a.kind && b.at > a.at {
				parses(t, lined(put(l, b.at, b.word)...), a.e)
				parses(t, lined(put(l, b.at, b.word)...)+" x", api.ErrMany)
			}
		}
	}
}

// spill: what a message's lists hold is written over, and their spare room.
func spill(m msg.Msg) {
	for i := range m.Path[:cap(m.Path)] {
		m.Path[:cap(m.Path)][i] = msg.Point{X: -7, Y: -7}
	}
	for i := range m.Cells[:cap(m.Cells)] {
		m.Cells[:cap(m.Cells)][i] = -7
	}
}

// P20.1, P20.2: what is handed in is as it was, its spare room, too; what is given shares no memory with it, nor with what is given elsewhere.
func TestMemory(t *testing.T) {
	for _, m := range right() {
		m.Path = append(slices.Clone(m.Path), msg.Point{X: 1, Y: 2}, msg.Point{X: 3, Y: 4})
		m.Cells = append(slices.Clone(m.Cells), 70000, 70001)
		m.Path, m.Cells = m.Path[:len(m.Path)-2], m.Cells[:len(m.Cells)-2]
		path, cells := slices.Clone(m.Path[:len(m.Path)+2]), slices.Clone(m.Cells[:len(m.Cells)+2])
		want := lined(words(m)...)
		s := say.Line(m)
		if !slices.Equal(m.Path[:len(path)], path) || !slices.Equal(m.Cells[:len(cells)], cells) {
			t.Errorf("Line left %v, %v", m.Path[:len(path)], m.Cells[:len(cells)])
		}
		spill(m)
		if s != want {
			t.Errorf("%q was left as %q", want, s)
		}
		one, _ := say.Parse(want)
		other, _ := say.Parse(want)
		spill(one)
		if again, e := say.Parse(want); e != api.OK || say.Line(again) != want || say.Line(other) != want {
			t.Errorf("%q: %s and %s share with another", want, told(other), told(again))
		}
	}
}

// P20.1, P20.2: texts that are given share no bytes with those that are handed in.
func TestTextMemory(t *testing.T) {
	for _, m := range right() {
		want := lined(words(m)...)
		b := []byte(want)
		s := unsafe.String(&b[0], len(b)) // of bytes that are written over below
		got := upTo(say.Words(s), -1)
		x, e := say.Parse(s)
		kept := upTo(say.Words(want), -1)
		for i := range b {
			b[i] = '#'
		}
		if !slices.Equal(got, kept) {
			t.Errorf("Words(%q) shares with it: %v", want, got)
		}
		if e != api.OK || say.Line(x) != want {
			t.Errorf("Parse(%q) shares with it: %s, %d", want, told(x), e)
		}
	}
}

// chance: a right message of any kind, made of a row that is the same at each run.
func chance(r *rand.Rand) msg.Msg {
	m := msg.Msg{Kind: kinds[r.Intn(5)]}
	line := func(most int) string {
		var b []byte
		for range r.Intn(most + 1) {
			b = append(b, byte(32+r.Intn(95)))
		}
		return string(b)
	}
	for i, x := range items(m.Kind) {
		switch x.sort {
		case 'n':
			m.N[i] = x.least + r.Intn(x.most-x.least+1)
		case 'p':
			span := []int{2, 100, far}[r.Intn(3)]
			for range 1 + r.Intn(16) {
				m.Path = append(m.Path, msg.Point{X: r.Intn(2*span+1) - span, Y: r.Intn(2*span+1) - span})
			}
		case 'c':
			span := []int{40, 1000, 65536}[r.Intn(3)]
			for range 1 + r.Intn(32) {
				m.Cells = append(m.Cells, r.Intn(span))
			}
			slices.Sort(m.Cells)
			m.Cells = slices.Compact(m.Cells)
		case 't':
			m.Text = line(64)
		case 'g':
			m.Tag = line(16)
		}
	}
	return m
}

// P20.3: lines are parsed as they were told, of many messages; no two of them have one line.
func TestFollows(t *testing.T) {
	r := rand.New(rand.NewSource(20))
	seen := map[string]string{}
	for range 20000 {
		m := chance(r)
		s := lined(words(m)...)
		tells(t, m, s)
		if had, ok := seen[s]; ok && had != told(m) {
			t.Errorf("%q is the line of %s and of %s", s, had, told(m))
		}
		seen[s] = told(m)
	}
}

// signs: those that make a difference in a line.
const signs = " -,;0123456789abcdefghorst.+_AF\x00\t\n\x7f\x80\xff"

// P20.3: a text that differs from a line in one sign, or in two that are exchanged, is parsed as another message, whose line it is, or not at all.
func TestOneSign(t *testing.T) {
	seen := map[api.Errno]int{}
	differs := func(m msg.Msg, line, s string) {
		x, e := asMeant(t, s)
		if e == api.OK && s != line && told(x) == told(m) {
			t.Errorf("%q and %q are parsed as one", line, s)
		}
		seen[e]++
	}
	for _, m := range right() {
		line := lined(words(m)...)
		for i := range len(line) + 1 {
			for _, c := range []byte(signs) {
				differs(m, line, line[:i]+string([]byte{c})+line[i:])
				if i < len(line) {
					differs(m, line, line[:i]+string([]byte{c})+line[i+1:])
				}
			}
			if i < len(line) {
				differs(m, line, line[:i]+line[i+1:])
			}
			if i+1 < len(line) {
				differs(m, line, line[:i]+line[i+1:i+2]+line[i:i+1]+line[i+2:])
			}
			differs(m, line, line[:i])
		}
	}
	for _, e := range []api.Errno{api.OK, api.ErrKind, api.ErrShort, api.ErrForm, api.ErrRange, api.ErrMany, api.ErrText} {
		if seen[e] < 10 {
			t.Errorf("%d was told but %d times", e, seen[e])
		}
	}
}

// spoil: something of a line changes: a sign, a word, or where words stand.
func spoil(r *rand.Rand, s string) string {
	i := r.Intn(len(s) + 1)
	c := string([]byte{signs[r.Intn(len(signs))]})
	l := strings.Split(s, " ")
	a, b := r.Intn(len(l)), r.Intn(len(l))
	switch r.Intn(7) {
	case 0:
		return s[:i] + c + s[i:]
	case 1:
		return s[:i] + c + s[min(i+1, len(s)):]
	case 2:
		return s[:i] + s[min(i+1, len(s)):]
	case 3:
		l[a], l[b] = l[b], l[a]
	case 4:
		l[a] = []string{"", "-", "0", "-1", "99999999999999999999", "70000", "1,2", "1,2;3,4", "6a", "7f"}[r.Intn(10)]
	case 5:
		l = l[:a+1]
	case 6:
		l = slices.Insert(l, a, l[b])
	}
	return lined(l...)
}

// P20.2, P20.3: many lines that are spoiled are parsed as the words have it; what is parsed is told by just this line.
func TestChance(t *testing.T) {
	r := rand.New(rand.NewSource(202))
	seen := map[api.Errno]int{}
	for range 60000 {
		s := lined(words(chance(r))...)
		for range r.Intn(4) {
			s = spoil(r, s)
		}
		_, e := asMeant(t, s)
		seen[e]++
	}
	for _, e := range []api.Errno{api.OK, api.ErrKind, api.ErrShort, api.ErrForm, api.ErrRange, api.ErrMany, api.ErrText} {
		if seen[e] < 50 {
			t.Errorf("%d was told but %d times", e, seen[e])
		}
	}
}

// P20.2: all paths and cells of up to six signs, of those that make a difference, and all texts and tags of up to four.
func TestRows(t *testing.T) {
	rows := func(some string, most int) []string {
		out, last := []string{""}, []string{""}
		for range most {
			var next []string
			for _, s := range last {
				for _, c := range some {
					next = append(next, s+string(c))
				}
			}
			out, last = append(out, next...), next
		}
		return out
	}
	for _, s := range rows("-01,;", 6) {
		asMeant(t, path(s))
		asMeant(t, cells(s))
	}
	for _, s := range rows("-02fFg ", 4) {
		asMeant(t, "fault robot 1 code 2 severity 3 part 4 times 5 text "+s)
		asMeant(t, "move robot 1 speed 2 accel 3 path 0,0 tag "+s)
	}
}
