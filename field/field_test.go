package field_test

import (
	"iter"
	"math"
	"slices"
	"strings"
	"testing"

	"cuneiform/api"
	"cuneiform/field"
)

// pair: what Kinds gives at once.
type pair struct {
	kind int
	word string
}

// right: the kinds, and the versions.
var (
	right    = []int{1, 2, 3, 4, 5}
	versions = []int{1, 2}
)

// wrongKinds: numbers that are no kind's: next to those, far off, and some that are within but for what a byte or 32 bits can't hold.
func wrongKinds() []int {
	return []int{
		0, 6, 7, 8, -1, -2, -5, 10, 100, 255, 256, 257, 261, -255, -251,
		1<<16 + 1, 1<<31 - 1, 1 << 31, 1<<32 + 1, 1<<32 + 5, -1<<32 + 1,
		math.MinInt, math.MinInt + 1, math.MinInt + 5, math.MaxInt - 1, math.MaxInt,
	}
}

// low and high: versions of which none has a field, and all have; none of 1.
func low() []int {
	return []int{0, -1, -2, -3, -255, -256, -1<<32 + 1, -1<<32 + 2, math.MinInt, math.MinInt + 1, math.MinInt + 2}
}

func high() []int {
	return []int{2, 3, 4, 9, 255, 256, 257, 1<<31 + 1, 1 << 32, 1<<32 + 1, math.MaxInt - 1, math.MaxInt}
}

// told: the fields of a kind as the chapter's words have them, each written out.
func told(kind int) []field.Field {
	return map[int][]field.Field{
		1: {
			{Name: "robot", Sort: 1, Place: 0, Least: 0, Most: 65535, Since: 1, Absent: 0},
			{Name: "speed", Sort: 1, Place: 1, Least: 1, Most: 5000, Since: 1, Absent: 0},
			{Name: "accel", Sort: 1, Place: 2, Least: 1, Most: 10000, Since: 2, Absent: 500},
			{Name: "path", Sort: 3, Place: -1, Least: 1, Most: 16, Since: 1, Absent: 0},
			{Name: "tag", Sort: 6, Place: -1, Least: 0, Most: 16, Since: 2, Absent: 0},
		},
		2: {
			{Name: "robot", Sort: 1, Place: 0, Least: 0, Most: 65535, Since: 1, Absent: 0},
			{Name: "reason", Sort: 1, Place: 1, Least: 0, Most: 15, Since: 1, Absent: 0},
			{Name: "zone", Sort: 1, Place: 2, Least: 0, Most: 4095, Since: 2, Absent: 0},
		},
		3: {
			{Name: "robot", Sort: 1, Place: 0, Least: 0, Most: 65535, Since: 1, Absent: 0},
			{Name: "zone", Sort: 1, Place: 1, Least: 0, Most: 4095, Since: 1, Absent: 0},
			{Name: "lease", Sort: 1, Place: 2, Least: 1, Most: 255, Since: 2, Absent: 1},
			{Name: "cells", Sort: 4, Place: -1, Least: 1, Most: 32, Since: 1, Absent: 0},
		},
		4: {
			{Name: "robot", Sort: 1, Place: 0, Least: 0, Most: 65535, Since: 1, Absent: 0},
			{Name: "x", Sort: 2, Place: 1, Least: -1000000, Most: 1000000, Since: 1, Absent: 0},
			{Name: "y", Sort: 2, Place: 2, Least: -1000000, Most: 1000000, Since: 1, Absent: 0},
			{Name: "heading", Sort: 1, Place: 3, Least: 0, Most: 35999, Since: 1, Absent: 0},
			{Name: "battery", Sort: 1, Place: 4, Least: 0, Most: 1000, Since: 1, Absent: 0},
			{Name: "sure", Sort: 1, Place: 5, Least: 0, Most: 100, Since: 2, Absent: 100},
		},
		5: {
			{Name: "robot", Sort: 1, Place: 0, Least: 0, Most: 65535, Since: 1, Absent: 0},
			{Name: "code", Sort: 1, Place: 1, Least: 1, Most: 9999, Since: 1, Absent: 0},
			{Name: "severity", Sort: 1, Place: 2, Least: 0, Most: 4, Since: 1, Absent: 0},
			{Name: "part", Sort: 1, Place: 3, Least: 0, Most: 255, Since: 2, Absent: 0},
			{Name: "times", Sort: 1, Place: 4, Least: 1, Most: 1000000, Since: 2, Absent: 1},
			{Name: "text", Sort: 5, Place: -1, Least: 0, Most: 64, Since: 1, Absent: 0},
		},
	}[kind]
}

// has: those of them that a version has.
func has(kind, version int) []field.Field {
	var out []field.Field
	for _, f := range told(kind) {
		if f.Since <= version {
			out = append(out, f)
		}
	}
	return out
}

// words: all kinds, and their words, as the promise names them.
func words() []pair {
	return []pair{{1, "move"}, {2, "hold"}, {3, "grant"}, {4, "pose"}, {5, "fault"}}
}

func names(l []field.Field) []string {
	var out []string
	for _, f := range l {
		out = append(out, f.Name)
	}
	return out
}

// pairs: what a ranging over all kinds gives, up to most of them.
func pairs(s iter.Seq2[int, string], most int) []pair {
	var out []pair
	for kind, word := range s {
		if out = append(out, pair{kind, word}); len(out) == most {
			break
		}
	}
	return out
}

// upTo: what a ranging gives, up to most of them.
func upTo(s iter.Seq[field.Field], most int) []field.Field {
	var out []field.Field
	for f := range s {
		if out = append(out, f); len(out) == most {
			break
		}
	}
	return out
}

// unchanged: that all calls answer as the words have it.
func unchanged(t *testing.T, behind string) {
	t.Helper()
	for _, kind := range right {
		if l := field.Of(kind); !slices.Equal(l, told(kind)) {
			t.Errorf("Of(%d) behind %s: %v", kind, behind, l)
		}
		for _, v := range versions {
			if l := slices.Collect(field.All(kind, v)); !slices.Equal(l, has(kind, v)) {
				t.Errorf("All(%d, %d) behind %s: %v", kind, v, behind, l)
			}
		}
		for _, want := range told(kind) {
			if f, ok := field.Find(kind, want.Name); f != want || !ok {
				t.Errorf("Find(%d, %q) behind %s: %v, %v", kind, want.Name, behind, f, ok)
			}
		}
	}
	if l := pairs(field.Kinds(), -1); !slices.Equal(l, words()) {
		t.Errorf("Kinds behind %s: %v", behind, l)
	}
}

// The constants: the kinds' numbers, and the sorts'.
func TestConstants(t *testing.T) {
	if l := []int{field.Move, field.Hold, field.Grant, field.Pose, field.Fault}; !slices.Equal(l, []int{1, 2, 3, 4, 5}) {
		t.Error("kinds", l)
	}
	if l := []int{field.Plain, field.Signed, field.Path, field.Cells, field.Text, field.Tag}; !slices.Equal(l, []int{1, 2, 3, 4, 5, 6}) {
		t.Error("sorts", l)
	}
}

// P16.1: each field of each kind, all of it, in order; and their names, by the kinds' constants.
func TestOf(t *testing.T) {
	for _, kind := range right {
		l, want := field.Of(kind), told(kind)
		if len(l) != len(want) {
			t.Errorf("Of(%d): %v, not %v", kind, names(l), names(want))
			continue
		}
		for i := range want {
			if l[i] != want[i] {
				t.Errorf("Of(%d): %d is %+v, not %+v", kind, i, l[i], want[i])
			}
		}
	}
	for kind, want := range map[int]string{
		field.Move:  "robot speed accel path tag",
		field.Hold:  "robot reason zone",
		field.Grant: "robot zone lease cells",
		field.Pose:  "robot x y heading battery sure",
		field.Fault: "robot code severity part times text",
	} {
		if is := strings.Join(names(field.Of(kind)), " "); is != want {
			t.Errorf("Of(%d): %q, not %q", kind, is, want)
		}
	}
}

// P16.1: places are those of the numbers among the fields, and -1 of others; no kind has more numbers than there may be.
func TestPlaces(t *testing.T) {
	for _, kind := range right {
		numbers := 0
		for _, f := range field.Of(kind) {
			want := -1
			if f.Sort == field.Plain || f.Sort == field.Signed {
				want = numbers
				numbers++
			}
			if f.Place != want {
				t.Errorf("%s of %d: place %d, not %d", f.Name, kind, f.Place, want)
			}
		}
		if numbers > api.Numbers {
			t.Errorf("%d has %d numbers", kind, numbers)
		}
	}
}

// P16.1: a number that isn't Signed is from 0 on, x and y alone may be below; of the other sorts the bounds are those of points, cells and bytes.
func TestSorts(t *testing.T) {
	for _, kind := range right {
		for _, f := range field.Of(kind) {
			signed := kind == field.Pose && (f.Name == "x" || f.Name == "y")
			if (f.Sort == field.Signed) != signed || (f.Least < 0) != signed {
				t.Errorf("%s of %d: sort %d, least %d", f.Name, kind, f.Sort, f.Least)
			}
			least, most := f.Least, f.Most
			switch f.Sort {
			case field.Path:
				least, most = 1, api.MaxPath
			case field.Cells:
				least, most = 1, api.MaxCells
			case field.Text:
				least, most = 0, api.MaxText
			case field.Tag:
				least, most = 0, api.MaxTag
			}
			if f.Least != least || f.Most != most || least > most {
				t.Errorf("%s of %d: %d to %d, not %d to %d", f.Name, kind, f.Least, f.Most, least, most)
			}
		}
	}
}

// P16.1: Since is 1 or 2; Absent is the number that is named, and 0 where none is.
func TestSince(t *testing.T) {
	absent := map[pair]int{
		{1, "accel"}: 500, {1, "tag"}: 0, {2, "zone"}: 0, {3, "lease"}: 1, {4, "sure"}: 100, {5, "part"}: 0, {5, "times"}: 1,
	}
	for _, kind := range right {
		for _, f := range field.Of(kind) {
			d, later := absent[pair{kind, f.Name}]
			since := 1
			if later {
				since = 2
			}
			if f.Since != since || f.Absent != d {
				t.Errorf("%s of %d: since %d, absent %d, not %d, %d", f.Name, kind, f.Since, f.Absent, since, d)
			}
			if later && f.Place >= 0 && (f.Absent < f.Least || f.Absent > f.Most) {
				t.Errorf("%s of %d: absent %d isn't from %d to %d", f.Name, kind, f.Absent, f.Least, f.Most)
			}
		}
	}
}

// P16.1, P16.2: nothing of a kind that is none: no field, no word, none found.
func TestNoKind(t *testing.T) {
	kinds := wrongKinds()
	for k := -300; k <= 300; k++ {
		if !slices.Contains(right, k) {
			kinds = append(kinds, k)
		}
	}
	for _, k := range kinds {
		if l := field.Of(k); len(l) != 0 {
			t.Errorf("Of(%d): %v", k, l)
		}
		for _, v := range slices.Concat(low(), []int{1}, high()) {
			if s := field.All(k, v); s == nil {
				t.Fatalf("All(%d, %d) is nil", k, v)
			} else if l := slices.Collect(s); len(l) != 0 {
				t.Errorf("All(%d, %d): %v", k, v, l)
			}
		}
		if w := field.Word(k); w != "" {
			t.Errorf("Word(%d): %q", k, w)
		}
		for _, name := range []string{"", "robot", "zone", "tag", "path"} {
			if f, ok := field.Find(k, name); ok || f != (field.Field{}) {
				t.Errorf("Find(%d, %q): %v, %v", k, name, f, ok)
			}
		}
	}
}

// P16.1: All gives of Of's fields those of the version, in order: all of 2 and more, nothing below 1.
func TestAll(t *testing.T) {
	for kind, want := range map[int]string{
		field.Move:  "robot speed path",
		field.Hold:  "robot reason",
		field.Grant: "robot zone cells",
		field.Pose:  "robot x y heading battery",
		field.Fault: "robot code severity text",
	} {
		if is := strings.Join(names(slices.Collect(field.All(kind, 1))), " "); is != want {
			t.Errorf("All(%d, 1): %q, not %q", kind, is, want)
		}
	}
	for _, kind := range right {
		if l := slices.Collect(field.All(kind, 1)); !slices.Equal(l, has(kind, 1)) {
			t.Errorf("All(%d, 1): %v", kind, l)
		}
		for _, v := range high() {
			if l := slices.Collect(field.All(kind, v)); !slices.Equal(l, told(kind)) || !slices.Equal(l, field.Of(kind)) {
				t.Errorf("All(%d, %d): %v", kind, v, l)
			}
		}
		for _, v := range low() {
			if s := field.All(kind, v); s == nil {
				t.Errorf("All(%d, %d) is nil", kind, v)
			} else if l := slices.Collect(s); len(l) != 0 {
				t.Errorf("All(%d, %d): %v", kind, v, l)
			}
		}
	}
}

// P16.1: a loop over All may be left at each field, and nothing more is given then; it gives them anew, also within another one.
func TestAllLeft(t *testing.T) {
	for _, kind := range right {
		for _, v := range slices.Concat(low(), versions, []int{3, math.MaxInt}) {
			s, want := field.All(kind, v), has(kind, v)
			for n := 1; n <= len(want); n++ {
				if l := upTo(s, n); !slices.Equal(l, want[:n]) {
					t.Errorf("All(%d, %d), left at %d: %v", kind, v, n, l)
				}
				if l := upTo(s, -1); !slices.Equal(l, want) {
					t.Errorf("All(%d, %d), ranged over again: %v", kind, v, l)
				}
			}
			var outer []field.Field
			for f := range s {
				outer = append(outer, f)
				n := len(outer)
				if l := upTo(s, n); !slices.Equal(l, want[:n]) {
					t.Errorf("All(%d, %d), within at %d: %v", kind, v, n, l)
				}
				if l := upTo(s, -1); !slices.Equal(l, want) {
					t.Errorf("All(%d, %d), within: %v", kind, v, l)
				}
			}
			if !slices.Equal(outer, want) {
				t.Errorf("All(%d, %d), with others within: %v", kind, v, outer)
			}
		}
	}
}

// P16.2: words and kinds, both ways.
func TestWords(t *testing.T) {
	for _, x := range words() {
		if w := field.Word(x.kind); w != x.word {
			t.Errorf("Word(%d): %q, not %q", x.kind, w, x.word)
		}
		if k := field.Kind(x.word); k != x.kind {
			t.Errorf("Kind(%q): %d, not %d", x.word, k, x.kind)
		}
	}
	if field.Kind("pose") != field.Pose || field.Word(field.Fault) != "fault" {
		t.Error("the constants aren't the words'")
	}
}

// unlike: texts that are a word but for something: greater letters, a part, more in some place, another byte.
func unlike(word string) []string {
	out := []string{
		strings.ToUpper(word), strings.ToUpper(word[:1]) + word[1:],
		" " + word, word + " ", word + "\n", word + "\x00", "\x00" + word, word + "s", word + word, word + "," + word,
	}
	for i := range len(word) {
		b := []byte(word)
		b[i] ^= 1
		out = append(out, word[:i], word[i+1:], word[:i]+word[i+1:], string(b), word[:i]+" "+word[i:])
		b[i] = word[i] - 'a' + 'A'
		out = append(out, string(b))
	}
	return out
}

// P16.2: 0 of a word that is none.
func TestNoWord(t *testing.T) {
	texts := []string{"", " ", "0", "1", "5", "none", "plain", "robot", "zone", "tag", "path", "move hold", "movehold", "m\xf6ve", strings.Repeat("move", 1000)}
	for _, x := range words() {
		texts = append(texts, unlike(x.word)...)
	}
	for _, s := range texts {
		if k := field.Kind(s); k != 0 {
			t.Errorf("Kind(%q): %d", s, k)
		}
	}
}

// P16.2: each field is found by its name, also one that only version 2 has; one that another kind has is not.
func TestFind(t *testing.T) {
	every := map[string]bool{}
	for _, kind := range right {
		for _, f := range told(kind) {
			every[f.Name] = true
		}
	}
	if len(every) != 19 {
		t.Fatal("the words have names", every)
	}
	for _, kind := range right {
		for name := range every {
			var want field.Field
			i := slices.IndexFunc(told(kind), func(f field.Field) bool { return f.Name == name })
			if i >= 0 {
				want = told(kind)[i]
			}
			if f, ok := field.Find(kind, name); f != want || ok != (i >= 0) {
				t.Errorf("Find(%d, %q): %+v, %v, not %+v", kind, name, f, ok, want)
			}
		}
	}
	if f, ok := field.Find(field.Hold, "zone"); !ok || f.Place != 2 || f.Since != 2 {
		t.Error("Find(Hold, zone)", f, ok)
	}
	if f, ok := field.Find(field.Grant, "zone"); !ok || f.Place != 1 || f.Since != 1 {
		t.Error("Find(Grant, zone)", f, ok)
	}
}

// P16.2: the zero field and false, beside one another, of a name that is none.
func TestNotFound(t *testing.T) {
	for _, kind := range right {
		texts := []string{"", " ", "0", "-1", "none", "kind", "n", "cell", "robot speed", strings.Repeat("robot", 1000)}
		for _, x := range words() {
			texts = append(texts, x.word)
		}
		for _, f := range told(kind) {
			if len(f.Name) > 1 { // a part of x may be y
				texts = append(texts, unlike(f.Name)...)
			}
		}
		texts = append(texts, "X", "Y", "x ", " x", "y ", " y", "xy", "x\x00", "z")
		for _, s := range texts {
			if slices.Contains(names(told(kind)), s) {
				continue
			}
			if f, ok := field.Find(kind, s); ok || f != (field.Field{}) {
				t.Errorf("Find(%d, %q): %v, %v", kind, s, f, ok)
			}
		}
	}
}

// P16.2: Kinds gives each kind and its word, rising; it may be left at each, gives them anew, also within another one.
func TestKinds(t *testing.T) {
	s, want := field.Kinds(), words()
	if s == nil {
		t.Fatal("Kinds is nil")
	}
	for range 2 {
		if l := pairs(s, -1); !slices.Equal(l, want) {
			t.Error("Kinds", l)
		}
	}
	for n := 1; n <= len(want); n++ {
		if l := pairs(s, n); !slices.Equal(l, want[:n]) {
			t.Errorf("Kinds, left at %d: %v", n, l)
		}
		if l := pairs(s, -1); !slices.Equal(l, want) {
			t.Errorf("Kinds, ranged over again: %v", l)
		}
	}
	var outer []pair
	for kind, word := range s {
		outer = append(outer, pair{kind, word})
		n := len(outer)
		if l := pairs(s, n); !slices.Equal(l, want[:n]) {
			t.Errorf("Kinds, within at %d: %v", n, l)
		}
		if l := pairs(s, -1); !slices.Equal(l, want) {
			t.Errorf("Kinds, within: %v", l)
		}
	}
	if !slices.Equal(outer, want) {
		t.Errorf("Kinds, with others within: %v", outer)
	}
}

// P16.1: a list is new memory: what is written to one, also behind its end where it has room, no other call answers, and no list that there is.
func TestMemory(t *testing.T) {
	spoilt := field.Field{Name: "spoilt", Sort: 9, Place: 9, Least: 9, Most: 9, Since: 1, Absent: 9}
	for _, kind := range right {
		before, s, a := field.Of(kind), field.All(kind, 2), field.Of(kind)
		a = a[:cap(a)]
		for i := range a {
			a[i] = spoilt
		}
		_ = append(field.Of(kind), spoilt)
		after := field.Of(kind)
		if !slices.Equal(before, told(kind)) || !slices.Equal(after, told(kind)) {
			t.Errorf("Of(%d), beside one that was written to: %v, %v", kind, before, after)
		}
		if l := slices.Collect(s); !slices.Equal(l, told(kind)) {
			t.Errorf("All(%d, 2), made ahead of the writing: %v", kind, l)
		}
		unchanged(t, "a writing")
	}
	for _, kind := range right { // within a ranging, too
		var l []field.Field
		for f := range field.All(kind, 2) {
			for _, k := range right {
				own := field.Of(k)
				own = own[:cap(own)]
				clear(own)
			}
			l = append(l, f)
		}
		if !slices.Equal(l, told(kind)) {
			t.Errorf("All(%d, 2), with writings within: %v", kind, l)
		}
	}
	empty := field.Of(0)
	empty = append(empty[:cap(empty)], spoilt)
	if l := field.Of(0); len(l) != 0 || len(empty) == 0 {
		t.Error("Of(0)", l)
	}
	unchanged(t, "all writings")
}
