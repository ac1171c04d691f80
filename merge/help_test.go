package merge_test

import (
	"bytes"
	"fmt"
	"slices"
	"strings"
	"testing"

	"halyard/api"
	"halyard/merge"
)

const (
	mostRows    = 64
	mostEntries = 40000
)

// of is an entry with a value that tells its key, its number and a mark of the row that it stands in.
func of(key string, seq int64, mark string) api.Entry {
	return api.Entry{Key: []byte(key), Seq: seq, Until: 7 * seq, Value: []byte(fmt.Sprint(key, seq, mark))}
}

func gone(key string, seq int64) api.Entry {
	return api.Entry{Key: []byte(key), Seq: seq, Gone: true}
}

// parse is rows written as "a5 c1; a7 b2"; the values tell the row.
func parse(text string) [][]api.Entry {
	var rows [][]api.Entry
	for i, row := range strings.Split(text, ";") {
		var l []api.Entry
		for _, word := range strings.Fields(row) {
			cut := strings.IndexAny(word, "0123456789")
			var seq int64
			fmt.Sscan(word[cut:], &seq)
			l = append(l, of(word[:cut], seq, fmt.Sprint(" of ", i)))
		}
		rows = append(rows, l)
	}
	return rows
}

// brief is the keys and numbers.
func brief(l []api.Entry) string {
	var words []string
	for _, e := range l {
		words = append(words, fmt.Sprint(string(e.Key), e.Seq))
	}
	return strings.Join(words, " ")
}

// show tells each field.
func show(l []api.Entry) string {
	var s strings.Builder
	for _, e := range l {
		fmt.Fprintf(&s, "(%q %d %v %d %q)", e.Key, e.Seq, e.Gone, e.Until, e.Value)
	}
	return s.String()
}

func showRows(rows [][]api.Entry) string {
	var words []string
	for _, row := range rows {
		words = append(words, show(row))
	}
	return strings.Join(words, "; ")
}

func same(a, b api.Entry) bool {
	return bytes.Equal(a.Key, b.Key) && a.Seq == b.Seq && a.Gone == b.Gone && a.Until == b.Until && bytes.Equal(a.Value, b.Value)
}

func sameRow(a, b []api.Entry) bool { return slices.EqualFunc(a, b, same) }

func isNothing(e api.Entry) bool { return same(e, api.Entry{}) }

// withRoom is a copy of s with other bytes behind its length, and all of the copy.
func withRoom(s []byte) ([]byte, []byte) {
	whole := append(bytes.Clone(s), bytes.Repeat([]byte{0xee}, 10)...)
	return whole[:len(s)], whole
}

func guardedRow(given []api.Entry) ([]api.Entry, func() bool) {
	row := make([]api.Entry, len(given), len(given)+3)
	var wholes, before [][]byte
	for i, e := range given {
		var key, value []byte
		e.Key, key = withRoom(e.Key)
		e.Value, value = withRoom(e.Value)
		row[i] = e
		wholes = append(wholes, key, value)
		before = append(before, bytes.Clone(key), bytes.Clone(value))
	}
	behind := row[len(row):cap(row)]
	for i := range behind {
		behind[i] = of("behind", int64(9-i), "")
	}
	image := show(row[:cap(row)])
	return row, func() bool {
		return show(row[:cap(row)]) == image && slices.EqualFunc(wholes, before, bytes.Equal)
	}
}

// guarded is a copy of rows with room behind each list's length, and a look whether all of it stayed as it was.
func guarded(given [][]api.Entry) ([][]api.Entry, func(t *testing.T)) {
	rows := make([][]api.Entry, len(given), len(given)+2)
	var looks []func() bool
	for i, row := range given {
		var look func() bool
		rows[i], look = guardedRow(row)
		looks = append(looks, look)
	}
	behind := rows[len(rows):cap(rows)]
	for i := range behind {
		behind[i] = []api.Entry{of("z", 1, ""), of("a", 1, "")}
	}
	image := showRows(rows[:cap(rows)])
	return rows, func(t *testing.T) {
		t.Helper()
		if showRows(rows[:cap(rows)]) != image || slices.ContainsFunc(looks, func(look func() bool) bool { return !look() }) {
			t.Errorf("the argument %.200s was changed", showRows(given))
		}
	}
}

// overwrite changes each byte that the slice reaches, also those behind its length.
func overwrite(b []byte) {
	b = b[:cap(b)]
	for i := range b {
		b[i] ^= 0xff
	}
}

// spoil changes all that a row reaches, and looks whether two of its lists share memory.
func spoil(t *testing.T, l []api.Entry) {
	t.Helper()
	var lists [][]byte
	for _, e := range l {
		lists = append(lists, e.Key, e.Value)
	}
	before := make([][]byte, len(lists))
	for i, b := range lists {
		before[i] = bytes.Clone(b)
	}
	for i, b := range lists {
		if !bytes.Equal(b, before[i]) {
			t.Errorf("the list %d of %.200s changed with one ahead of it", i, show(l))
		}
		overwrite(b)
	}
	for i, b := range lists {
		overwrite(b)
		if !bytes.Equal(b, before[i]) {
			t.Errorf("the list %d of %.200s changed with one behind it", i, show(l))
		}
		overwrite(b)
	}
	l = l[:cap(l)]
	for i := range l {
		l[i] = api.Entry{Seq: -1}
	}
}

// takes looks that Merge answers those entries, on memory of its own.
func takes(t *testing.T, rows [][]api.Entry, want []api.Entry) {
	t.Helper()
	given, unchanged := guarded(rows)
	l, errno := merge.Merge(given)
	if errno != api.OK || !sameRow(l, want) {
		t.Errorf("Merge(%.300s) = %.300s, %d; want %.300s", showRows(rows), show(l), errno, show(want))
	}
	spoil(t, l)
	unchanged(t)
}

// refuses looks that Merge and New answer that error, and nothing else.
func refuses(t *testing.T, rows [][]api.Entry, want api.Errno) {
	t.Helper()
	given, unchanged := guarded(rows)
	l, errno := merge.Merge(given)
	if errno != want || l != nil {
		t.Errorf("Merge(%.300s) = %.300s, %d; want error %d", showRows(rows), show(l), errno, want)
	}
	i, errno := merge.New(given)
	if errno != want || i != nil {
		t.Errorf("New(%.300s) = %v, %d; want error %d", showRows(rows), i, errno, want)
	}
	unchanged(t)
}

// over is a new iterator over those rows.
func over(t *testing.T, rows [][]api.Entry) *merge.Iter {
	t.Helper()
	given, unchanged := guarded(rows)
	i, errno := merge.New(given)
	if errno != api.OK || i == nil {
		t.Fatalf("New(%.300s) = %v, %d", showRows(rows), i, errno)
	}
	unchanged(t)
	for _, row := range given {
		spoil(t, row)
	}
	return i
}

// drain is all that Next tells, up to the end; Left is asked at each place.
func drain(t *testing.T, i *merge.Iter) []api.Entry {
	t.Helper()
	var l []api.Entry
	left := i.Left()
	for {
		e, ok := i.Next()
		if !ok {
			break
		}
		left--
		if i.Left() != left {
			t.Fatalf("Left() = %d behind %d entries; want %d", i.Left(), len(l)+1, left)
		}
		l = append(l, e)
	}
	if left != 0 || i.Left() != 0 {
		t.Errorf("Left() = %d at the end, %d by count", i.Left(), left)
	}
	return l
}

// falling is n entries of that key, their numbers falling to 1.
func falling(key string, n int) []api.Entry {
	var l []api.Entry
	for i := range n {
		l = append(l, api.Entry{Key: []byte(key), Seq: int64(n - i)})
	}
	return l
}
