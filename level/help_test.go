package level_test

import (
	"bytes"
	"fmt"
	"slices"
	"strings"
	"testing"

	"halyard/api"
	"halyard/level"
)

const (
	mark    = 1 << 62 // the greatest Log, Next and Seq
	number  = 1 << 40 // the greatest number of a table
	biggest = 1 << 22 // the greatest Size
	longest = 512     // the most bytes of a key
	tables  = 200     // the most tables
)

func line(number int64, level int, least, most string) api.Table {
	return api.Table{Number: number, Level: level, Size: 10 * number, Least: []byte(least), Most: []byte(most)}
}

// of is a version of those tables, with marks that leave room on either side.
func of(lines ...api.Table) api.Version {
	return api.Version{Log: 10, Next: 1000, Seq: 30, Tables: lines}
}

// ordinary is a version with tables in several levels; those of level 0 overlap.
func ordinary() api.Version {
	return of(line(7, 0, "a", "m"), line(2, 0, "c", "z"), line(5, 1, "a", "b"), line(3, 1, "d", "d"), line(6, 1, "f", "h"), line(1, 3, "b", "y"))
}

// changing is an edit to versions of the marks that of gives.
func changing(remove []int64, add ...api.Table) api.Edit {
	return api.Edit{Log: 10, Next: 1000, Seq: 30, Add: add, Remove: remove}
}

// many are n tables of a level that may stand together, with numbers from that one on.
func many(from int64, level, n int) []api.Table {
	var lines []api.Table
	for i := range n {
		key := fmt.Sprintf("k%04d", i)
		lines = append(lines, line(from+int64(i), level, key, key+"z"))
	}
	if level == 0 {
		slices.Reverse(lines)
	}
	return lines
}

// spread are n tables that may stand together, over all levels.
func spread(n int) []api.Table {
	var lines []api.Table
	for level := range 4 {
		lines = append(lines, many(int64(1+len(lines)), level, (n+level)/4)...)
	}
	return lines
}

func numbersOf(lines []api.Table) []int64 {
	var numbers []int64
	for _, l := range lines {
		numbers = append(numbers, l.Number)
	}
	return numbers
}

// withRoom is a copy of s with other bytes behind its length, and all of the copy.
func withRoom(s []byte) ([]byte, []byte) {
	whole := append(bytes.Clone(s), bytes.Repeat([]byte{0xee}, 40)...)
	return whole[:len(s)], whole
}

// guardedLines is a copy of lines with room behind each list's length, and a look whether all of it stayed as it was.
func guardedLines(given []api.Table) ([]api.Table, func(t *testing.T)) {
	lines := make([]api.Table, len(given), len(given)+3)
	var wholes, before [][]byte
	for i, l := range given {
		var least, most []byte
		l.Least, least = withRoom(l.Least)
		l.Most, most = withRoom(l.Most)
		lines[i] = l
		wholes = append(wholes, least, most)
		before = append(before, bytes.Clone(least), bytes.Clone(most))
	}
	behind := lines[len(lines):cap(lines)]
	for i := range behind {
		behind[i] = line(1, 0, "behind", "behind")
	}
	image := fmt.Sprint(lines[:cap(lines)])
	return lines, func(t *testing.T) {
		t.Helper()
		if fmt.Sprint(lines[:cap(lines)]) != image || !slices.EqualFunc(wholes, before, bytes.Equal) {
			t.Errorf("the argument %s was changed", show(given))
		}
	}
}

func guarded(v api.Version) (api.Version, func(t *testing.T)) {
	lines, unchanged := guardedLines(v.Tables)
	v.Tables = lines
	return v, unchanged
}

func guardedEdit(e api.Edit) (api.Edit, func(t *testing.T)) {
	lines, unchanged := guardedLines(e.Add)
	numbers := append(slices.Clone(e.Remove), 1, 1, 0)
	image := slices.Clone(numbers)
	e.Add, e.Remove = lines, numbers[:len(e.Remove)]
	return e, func(t *testing.T) {
		t.Helper()
		unchanged(t)
		if !slices.Equal(numbers, image) {
			t.Errorf("the numbers of the argument %s were changed", showEdit(e))
		}
	}
}

// overwrite changes each byte that the slice reaches, also those behind its length.
func overwrite(b []byte) {
	b = b[:cap(b)]
	for i := range b {
		b[i] ^= 0xff
	}
}

// spoil changes all that a row of lines reaches, and looks whether two of its keys share memory.
func spoil(t *testing.T, lines []api.Table) {
	t.Helper()
	var keys [][]byte
	for _, l := range lines {
		keys = append(keys, l.Least, l.Most)
	}
	before := make([][]byte, len(keys))
	for i, k := range keys {
		before[i] = bytes.Clone(k)
	}
	for i, k := range keys {
		if !bytes.Equal(k, before[i]) {
			t.Errorf("the key %d of %s changed with one ahead of it", i, show(lines))
		}
		overwrite(k)
	}
	for i, k := range keys {
		overwrite(k)
		if !bytes.Equal(k, before[i]) {
			t.Errorf("the key %d of %s changed with one behind it", i, show(lines))
		}
		overwrite(k)
	}
	clear(lines[:cap(lines)])
}

func show(lines []api.Table) string {
	var s strings.Builder
	for _, l := range lines {
		fmt.Fprintf(&s, "%d:%d %.10q-%.10q ", l.Level, l.Number, l.Least, l.Most)
	}
	return s.String()[:min(s.Len(), 150)]
}

func showVersion(v api.Version) string {
	return fmt.Sprintf("Log %d, Next %d, Seq %d, %d tables: %s", v.Log, v.Next, v.Seq, len(v.Tables), show(v.Tables))
}

func showEdit(e api.Edit) string {
	numbers := fmt.Sprint(e.Remove)
	return fmt.Sprintf("Log %d, Next %d, Seq %d, %d lines: %s, %d numbers: %s", e.Log, e.Next, e.Seq, len(e.Add), show(e.Add), len(e.Remove), numbers[:min(len(numbers), 100)])
}

func equal(a, b api.Table) bool {
	return a.Number == b.Number && a.Level == b.Level && a.Size == b.Size && bytes.Equal(a.Least, b.Least) && bytes.Equal(a.Most, b.Most)
}

func same(a, b api.Version) bool {
	return a.Log == b.Log && a.Next == b.Next && a.Seq == b.Seq && slices.EqualFunc(a.Tables, b.Tables, equal)
}

func sameEdit(a, b api.Edit) bool {
	return a.Log == b.Log && a.Next == b.Next && a.Seq == b.Seq && slices.EqualFunc(a.Add, b.Add, equal) && slices.Equal(a.Remove, b.Remove)
}

// wantMay asks each call that tells whether a version may be.
func wantMay(t *testing.T, v api.Version, want bool) {
	t.Helper()
	given, unchanged := guarded(v)
	if got := level.May(given); got != want {
		t.Errorf("May(%s) = %v", showVersion(v), got)
	}
	unchanged(t)
	onward := api.Edit{Log: mark, Next: mark, Seq: mark}
	end := api.Version{Log: mark, Next: mark, Seq: mark, Tables: v.Tables}
	if want {
		wantApply(t, v, onward, end)
		wantDiff(t, v, end, onward)
		wantDiff(t, api.Version{}, v, api.Edit{Log: v.Log, Next: v.Next, Seq: v.Seq, Add: v.Tables})
		return
	}
	refusedApply(t, v, onward, api.ErrArg)
	refusedDiff(t, v, api.Version{Log: mark, Next: mark, Seq: mark})
	refusedDiff(t, api.Version{}, v)
}

func wantApply(t *testing.T, v api.Version, e api.Edit, want api.Version) {
	t.Helper()
	givenV, unchangedV := guarded(v)
	givenE, unchangedE := guardedEdit(e)
	got, errno := level.Apply(givenV, givenE)
	if errno != api.OK || !same(got, want) || !level.May(got) {
		t.Errorf("Apply(%s; %s) = %s, %d, not %s", showVersion(v), showEdit(e), showVersion(got), errno, showVersion(want))
	}
	spoil(t, got.Tables)
	unchangedV(t)
	unchangedE(t)
}

func refusedApply(t *testing.T, v api.Version, e api.Edit, want api.Errno) {
	t.Helper()
	givenV, unchangedV := guarded(v)
	givenE, unchangedE := guardedEdit(e)
	got, errno := level.Apply(givenV, givenE)
	if errno != want || !same(got, api.Version{}) {
		t.Errorf("Apply(%s; %s) = %s, %d, not the error %d alone", showVersion(v), showEdit(e), showVersion(got), errno, want)
	}
	unchangedV(t)
	unchangedE(t)
}

// wantDiff asks for P15.4, too.
func wantDiff(t *testing.T, a, b api.Version, want api.Edit) {
	t.Helper()
	givenA, unchangedA := guarded(a)
	givenB, unchangedB := guarded(b)
	got, errno := level.Diff(givenA, givenB)
	if errno != api.OK || !sameEdit(got, want) {
		t.Errorf("Diff(%s; %s) = %s, %d, not %s", showVersion(a), showVersion(b), showEdit(got), errno, showEdit(want))
	}
	if back, errno := level.Apply(givenA, got); errno != api.OK || !same(back, b) {
		t.Errorf("Apply of Diff(%s; %s) = %s, %d", showVersion(a), showVersion(b), showVersion(back), errno)
	}
	spoil(t, got.Add)
	clear(got.Remove[:cap(got.Remove)])
	unchangedA(t)
	unchangedB(t)
}

func refusedDiff(t *testing.T, a, b api.Version) {
	t.Helper()
	givenA, unchangedA := guarded(a)
	givenB, unchangedB := guarded(b)
	got, errno := level.Diff(givenA, givenB)
	if errno != api.ErrArg || !sameEdit(got, api.Edit{}) {
		t.Errorf("Diff(%s; %s) = %s, %d, not ErrArg alone", showVersion(a), showVersion(b), showEdit(got), errno)
	}
	unchangedA(t)
	unchangedB(t)
}

// wantLines asks for those numbers of a row of lines, and that the lines are those of the version.
func wantLines(t *testing.T, v api.Version, call string, got []api.Table, want ...int64) {
	t.Helper()
	if !slices.Equal(numbersOf(got), want) {
		t.Errorf("%s of %s = %v, not %v", call, showVersion(v), numbersOf(got), want)
	}
	for _, l := range got {
		if !slices.ContainsFunc(v.Tables, func(other api.Table) bool { return equal(l, other) }) {
			t.Errorf("%s of %s has a line that is none of them: %s", call, showVersion(v), show([]api.Table{l}))
		}
	}
	spoil(t, got)
}

func wantAt(t *testing.T, v api.Version, at int, want ...int64) {
	t.Helper()
	given, unchanged := guarded(v)
	wantLines(t, v, fmt.Sprintf("At(%d)", at), level.At(given, at), want...)
	unchanged(t)
}

func wantSize(t *testing.T, v api.Version, at int, want int64) {
	t.Helper()
	given, unchanged := guarded(v)
	if got := level.Size(given, at); got != want {
		t.Errorf("Size(%s; %d) = %d, not %d", showVersion(v), at, got, want)
	}
	unchanged(t)
}

func wantOverlap(t *testing.T, v api.Version, at int, least, most string, want ...int64) {
	t.Helper()
	given, unchanged := guarded(v)
	from, wholeFrom := withRoom([]byte(least))
	to, wholeTo := withRoom([]byte(most))
	image := string(wholeFrom) + string(wholeTo)
	wantLines(t, v, fmt.Sprintf("Overlap(%d, %.20q, %.20q)", at, least, most), level.Overlap(given, at, from, to), want...)
	unchanged(t)
	if string(wholeFrom)+string(wholeTo) != image {
		t.Errorf("the keys %.20q, %.20q were changed", least, most)
	}
}

func wantFind(t *testing.T, v api.Version, key string, want ...int64) {
	t.Helper()
	given, unchanged := guarded(v)
	k, whole := withRoom([]byte(key))
	image := string(whole)
	wantLines(t, v, fmt.Sprintf("Find(%.20q)", key), level.Find(given, k), want...)
	unchanged(t)
	if string(whole) != image {
		t.Errorf("the key %.20q was changed", key)
	}
}
