package merge_test

import (
	"testing"

	"halyard/api"
	"halyard/merge"
)

// P16.2, P16.3: what Next tells from a new iterator is Merge, entry by entry, and then none.
func TestNextTellsMerge(t *testing.T) {
	for _, c := range merges {
		rows := parse(c.rows)
		want := mergedByWords(rows)
		i := over(t, rows)
		if i.Left() != len(want) {
			t.Errorf("New(%s).Left() = %d; want %d", c.rows, i.Left(), len(want))
		}
		if l := drain(t, i); !sameRow(l, want) {
			t.Errorf("Next over %s: %s; want %s", c.rows, show(l), show(want))
		}
		for range 3 {
			if e, ok := i.Next(); ok || !isNothing(e) || i.Left() != 0 {
				t.Errorf("Next behind the end of %s = %v, %v; Left %d", c.rows, e, ok, i.Left())
			}
		}
	}
}

// P16.2: an iterator over nothing.
func TestIterOverNothing(t *testing.T) {
	for _, rows := range [][][]api.Entry{nil, {}, {nil}, {{}, {}}, make([][]api.Entry, 64)} {
		i := over(t, rows)
		for _, key := range []string{"", "a"} {
			if e, ok := i.Next(); ok || !isNothing(e) || i.Left() != 0 {
				t.Errorf("Next over %d rows of nothing = %v, %v", len(rows), e, ok)
			}
			i.Seek([]byte(key))
		}
	}
}

// seeks are keys, and what is left behind a Seek to them over "a5 c1; a7 b2 b1; d1".
var seeks = []struct{ key, left string }{
	{"", "a7 a5 b2 b1 c1 d1"},
	{"A", "a7 a5 b2 b1 c1 d1"},
	{"\x00", "a7 a5 b2 b1 c1 d1"},
	{"a", "a7 a5 b2 b1 c1 d1"},
	{"a\x00", "b2 b1 c1 d1"},
	{"aa", "b2 b1 c1 d1"},
	{"b", "b2 b1 c1 d1"},
	{"b\xff", "c1 d1"},
	{"c", "c1 d1"},
	{"cc", "d1"},
	{"d", "d1"},
	{"d\x00", ""},
	{"e", ""},
	{"\xff\xff", ""},
}

// seek goes to the key, and looks that the key is not changed, nor kept.
func seek(t *testing.T, i *merge.Iter, key string) {
	t.Helper()
	given, whole := withRoom([]byte(key))
	before := string(whole)
	i.Seek(given)
	if string(whole) != before {
		t.Errorf("Seek changed its key %q", key)
	}
	overwrite(whole)
}

// P16.2: Seek from a new iterator.
func TestSeekFromTheBeginning(t *testing.T) {
	for _, c := range seeks {
		i := over(t, parse("a5 c1; a7 b2 b1; d1"))
		seek(t, i, c.key)
		if got := brief(drain(t, i)); got != c.left {
			t.Errorf("behind Seek(%q): %s; want %s", c.key, got, c.left)
		}
	}
	i := over(t, parse("a5 c1; a7 b2 b1; d1"))
	i.Seek(nil)
	if i.Left() != 6 {
		t.Errorf("Left() = %d behind Seek(nil); want 6", i.Left())
	}
}

// P16.2: Seek forth or back, from each place, also from behind the end, and once more to where it stands.
func TestSeekFromEachPlace(t *testing.T) {
	i := over(t, parse("a5 c1; a7 b2 b1; d1"))
	for _, first := range seeks {
		for steps := range 9 {
			for _, c := range seeks {
				seek(t, i, first.key)
				for range steps {
					i.Next()
				}
				seek(t, i, c.key)
				seek(t, i, c.key)
				if got := brief(drain(t, i)); got != c.left {
					t.Errorf("Seek(%q), %d steps, Seek(%q): %s; want %s", first.key, steps, c.key, got, c.left)
				}
			}
		}
	}
}

// P16.2: Seek comes to the first of several entries of one key and number.
func TestSeekToEquals(t *testing.T) {
	rows := parse("a1 b5; b5 b4; b5 c1; a2")
	i := over(t, rows)
	seek(t, i, "b")
	want := []api.Entry{rows[0][1], rows[1][0], rows[2][0], rows[1][1], rows[2][1]}
	if l := drain(t, i); !sameRow(l, want) {
		t.Errorf("behind Seek(b): %s; want %s", show(l), show(want))
	}
}

// P16.2: New's errors are Merge's, and beside them there is no iterator.
func TestNewRefuses(t *testing.T) {
	refuses(t, parse("a1 a2"), api.ErrOrder)
	refuses(t, make([][]api.Entry, 65), api.ErrMany)
	refuses(t, append(make([][]api.Entry, 65), parse("b1 a1")...), api.ErrOrder)
}

// P16.2: an iterator that there isn't, and one that New did not make.
func TestNilIter(t *testing.T) {
	var none *merge.Iter
	for _, i := range []*merge.Iter{none, new(merge.Iter)} {
		for _, key := range [][]byte{nil, []byte("a")} {
			i.Seek(key)
			if e, ok := i.Next(); ok || !isNothing(e) || i.Left() != 0 {
				t.Errorf("nothing: Next() = %v, %v; Left %d", e, ok, i.Left())
			}
		}
	}
}

// R2: what Next tells is the caller's own; what is told again is as it was.
func TestNextTellsNewMemory(t *testing.T) {
	rows := parse("a5 c1; a7 b2; a5 d1")
	want := mergedByWords(rows)
	i := over(t, rows)
	for range 3 {
		seek(t, i, "")
		var told []api.Entry
		for _, w := range want {
			e, ok := i.Next()
			if !ok || !same(e, w) {
				t.Fatalf("Next() = %v, %v; want %v", e, ok, w)
			}
			told = append(told, e)
		}
		spoil(t, told)
	}
}

// P16.2: two iterators over the same rows don't touch one another.
func TestItersApart(t *testing.T) {
	rows := parse("a1 c1; b1 d1")
	a, b := over(t, rows), over(t, rows)
	a.Next()
	seek(t, b, "c")
	if a.Left() != 3 || b.Left() != 2 {
		t.Errorf("Left %d and %d; want 3 and 2", a.Left(), b.Left())
	}
	if got := brief(drain(t, a)); got != "b1 c1 d1" {
		t.Errorf("the first one tells %s", got)
	}
	if got := brief(drain(t, b)); got != "c1 d1" {
		t.Errorf("the second one tells %s", got)
	}
}
