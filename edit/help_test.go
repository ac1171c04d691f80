package edit_test

import (
	"bytes"
	"encoding/binary"
	"encoding/hex"
	"fmt"
	"math/rand"
	"slices"
	"strings"
	"testing"

	"halyard/api"
	"halyard/edit"
)

const (
	mark    = 1 << 62 // the greatest Log, Next and Seq
	number  = 1 << 40 // the greatest number of a table
	biggest = 1 << 22 // the greatest Size
	longest = 512     // the most bytes of a key
	tables  = 200     // the most lines, and the most numbers to remove
)

// row is a row of n bytes that look like nothing in particular, the same for the same seed.
func row(seed int64, n int) []byte {
	b := make([]byte, n)
	rand.New(rand.NewSource(seed)).Read(b)
	return b
}

// unhex reads bytes as the document writes them: with blanks between.
func unhex(t *testing.T, text string) []byte {
	t.Helper()
	b, err := hex.DecodeString(strings.ReplaceAll(text, " ", ""))
	if err != nil {
		t.Fatal(err)
	}
	return b
}

func join(parts ...[]byte) []byte { return bytes.Join(parts, nil) }

func uvarint(n uint64) []byte { return binary.AppendUvarint(nil, n) }

func withLength(s []byte) []byte { return join(uvarint(uint64(len(s))), s) }

// lineBytes and bytesOf are P14.1's own words, to hold the package against; they ask not whether the edit may be.
func lineBytes(l api.Table) []byte {
	return join(uvarint(uint64(l.Number)), uvarint(uint64(l.Level)), uvarint(uint64(l.Size)), withLength(l.Least), withLength(l.Most))
}

func bytesOf(e api.Edit) []byte {
	all := join(uvarint(uint64(e.Log)), uvarint(uint64(e.Next)), uvarint(uint64(e.Seq)), uvarint(uint64(len(e.Add))))
	for _, l := range e.Add {
		all = append(all, lineBytes(l)...)
	}
	all = append(all, uvarint(uint64(len(e.Remove)))...)
	for _, n := range e.Remove {
		all = append(all, uvarint(uint64(n))...)
	}
	return all
}

func line(number int64, level int, size int64, least, most string) api.Table {
	return api.Table{Number: number, Level: level, Size: size, Least: []byte(least), Most: []byte(most)}
}

func adding(lines ...api.Table) api.Edit { return api.Edit{Log: 3, Next: 4, Seq: 9, Add: lines} }

func removing(numbers ...int64) api.Edit { return api.Edit{Log: 3, Next: 4, Seq: 9, Remove: numbers} }

// manyLines are n lines that may be, with numbers from that one on.
func manyLines(from int64, n int) []api.Table {
	lines := make([]api.Table, n)
	for i := range lines {
		lines[i] = line(from+int64(i), i%4, int64(i)*1000+1, fmt.Sprint("k", i), fmt.Sprint("k", i, strings.Repeat("m", i%9)))
	}
	return lines
}

// manyNumbers are n numbers from that one on.
func manyNumbers(from int64, n int) []int64 {
	numbers := make([]int64, n)
	for i := range numbers {
		numbers[i] = from + int64(i)
	}
	return numbers
}

// greatest is the edit with the most bytes.
func greatest() api.Edit {
	e := api.Edit{Log: mark, Next: mark, Seq: mark, Remove: manyNumbers(number-tables+1, tables)}
	for i := range tables {
		least, most := row(int64(i), longest), row(int64(i), longest)
		least[0], most[0] = 7, 8
		e.Add = append(e.Add, api.Table{Number: number - int64(i), Level: 3, Size: biggest, Least: least, Most: most})
	}
	return e
}

// good are edits that may be, the edges among them.
func good() []api.Edit {
	all := []api.Edit{
		{},
		removing(2),
		adding(line(1, 0, 1, "a", "b")),
		{Add: []api.Table{line(1, 0, 1, "a", "a")}, Remove: []int64{1}},
		{Add: []api.Table{}, Remove: []int64{}},
		{Log: 1, Next: 2, Seq: 3, Add: []api.Table{line(7, 1, 300, "same", "same"), line(5, 1, 300, "same", "same"), line(6, 0, 1, "b", "bb")}, Remove: []int64{6, 2, 7, 1}},
		{Log: mark, Next: 300, Add: []api.Table{line(7, 3, biggest, "a", "a"), line(number, 0, 1, "b", "cc")}, Remove: []int64{9, 7}},
		{Log: mark, Next: mark, Seq: mark},
		adding(line(number, 3, biggest, "\x00", "\xff")),
		adding(line(1, 2, biggest-1, "\x00", "\x00"), line(2, 1, 2, "\xff", "\xff\x00")),
		adding(line(9, 0, 1, strings.Repeat("k", longest), strings.Repeat("k", longest))),
		removing(number, 1),
		removing(5, 4, 3, 2, 1, 6),
		greatest(),
	}
	for _, n := range []int{1, 2, 3, 126, 127, 128, 129, 199, 200} {
		all = append(all, adding(manyLines(1, n)...), removing(manyNumbers(1, n)...),
			api.Edit{Log: 1, Next: 1, Seq: 1, Add: manyLines(5, n), Remove: manyNumbers(5, n)},
			api.Edit{Add: manyLines(number-int64(n)+1, n), Remove: manyNumbers(1, tables+1-n)})
	}
	for shift := range 63 {
		n := int64(1) << shift
		all = append(all, api.Edit{Log: n, Next: n - 1, Seq: n/2 + 1}, api.Edit{Next: n}, api.Edit{Seq: n, Remove: []int64{min(n, number)}})
	}
	for shift := range 41 {
		n := int64(1) << shift
		all = append(all, removing(n, number-3), adding(line(n, shift%4, min(n, biggest), "k", "l")))
	}
	for _, n := range []int{1, 2, 126, 127, 128, 129, 255, 256, 511, 512} {
		key := row(4, n)
		all = append(all, adding(line(9, 1, 5, string(key), string(key)), line(8, 1, 5, string(key[:1]), string(key))))
	}
	return all
}

// withRoom is a copy of s with other bytes behind its length, and all of the copy.
func withRoom(s []byte) ([]byte, []byte) {
	whole := join(s, bytes.Repeat([]byte{0xee}, 40))
	return whole[:len(s)], whole
}

// guarded is a copy of e with room behind each list's length, and a look whether all of it stayed as it was.
func guarded(e api.Edit) (api.Edit, func(t *testing.T)) {
	lines := make([]api.Table, len(e.Add), len(e.Add)+3)
	var wholes, before [][]byte
	for i, l := range e.Add {
		var least, most []byte
		l.Least, least = withRoom(l.Least)
		l.Most, most = withRoom(l.Most)
		lines[i] = l
		wholes = append(wholes, least, most)
		before = append(before, bytes.Clone(least), bytes.Clone(most))
	}
	behind := lines[len(lines):cap(lines)]
	for i := range behind {
		behind[i] = line(1, 0, 1, "behind", "behind")
	}
	numbers := append(slices.Clone(e.Remove), 1, 1, 0)
	imageOfLines, imageOfNumbers := fmt.Sprint(lines[:cap(lines)]), slices.Clone(numbers)
	given := e
	given.Add, given.Remove = lines, numbers[:len(e.Remove)]
	return given, func(t *testing.T) {
		t.Helper()
		if fmt.Sprint(lines[:cap(lines)]) != imageOfLines || !slices.Equal(numbers, imageOfNumbers) {
			t.Errorf("the argument %s was changed", show(e))
		}
		for i := range wholes {
			if !bytes.Equal(wholes[i], before[i]) {
				t.Errorf("the argument %s was changed in its key %d", show(e), i)
			}
		}
	}
}

// guardedBytes is guarded's like for bytes.
func guardedBytes(b []byte) ([]byte, func(t *testing.T)) {
	given, whole := withRoom(b)
	before := bytes.Clone(whole)
	return given, func(t *testing.T) {
		t.Helper()
		if !bytes.Equal(whole, before) {
			t.Errorf("the argument %.60x was changed", b)
		}
	}
}

// overwrite changes each byte that the slice reaches, also those behind its length.
func overwrite(b []byte) {
	b = b[:cap(b)]
	for i := range b {
		b[i] ^= 0xff
	}
}

// spoil changes all that an edit reaches.
func spoil(e api.Edit) {
	for _, l := range e.Add {
		overwrite(l.Least)
		overwrite(l.Most)
	}
	clear(e.Add[:cap(e.Add)])
	clear(e.Remove[:cap(e.Remove)])
}

func show(e api.Edit) string {
	text := fmt.Sprintf("Log %d, Next %d, Seq %d, %d lines, %d numbers: %v, %v", e.Log, e.Next, e.Seq, len(e.Add), len(e.Remove), e.Add, e.Remove)
	return text[:min(len(text), 250)]
}

func showLine(l api.Table) string {
	return fmt.Sprintf("number %d, level %d, size %d, %.40q to %.40q", l.Number, l.Level, l.Size, l.Least, l.Most)
}

func sameLine(a, b api.Table) bool {
	return a.Number == b.Number && a.Level == b.Level && a.Size == b.Size && bytes.Equal(a.Least, b.Least) && bytes.Equal(a.Most, b.Most)
}

func same(a, b api.Edit) bool {
	return a.Log == b.Log && a.Next == b.Next && a.Seq == b.Seq && slices.EqualFunc(a.Add, b.Add, sameLine) && slices.Equal(a.Remove, b.Remove)
}

func zero(e api.Edit) bool {
	return e.Log == 0 && e.Next == 0 && e.Seq == 0 && e.Add == nil && e.Remove == nil
}

// wantLine asks of a line alone, and of edits that have it at some place.
func wantLine(t *testing.T, l api.Table, want bool) {
	t.Helper()
	given, unchanged := guarded(adding(l))
	if got := edit.MayTable(given.Add[0]); got != want {
		t.Errorf("MayTable(%s) = %v", showLine(l), got)
	}
	unchanged(t)
	ahead, behind := line(31, 0, 1, "a", "b"), line(32, 3, 9, "c", "d")
	for _, e := range []api.Edit{adding(l), adding(ahead, l), adding(l, behind), adding(ahead, l, behind)} {
		wantMay(t, e, want)
	}
}

// wantMay asks the two calls that tell whether an edit may be.
func wantMay(t *testing.T, e api.Edit, want bool) {
	t.Helper()
	given, unchanged := guarded(e)
	if got := edit.May(given); got != want {
		t.Errorf("May(%s) = %v", show(e), got)
	}
	b, errno := edit.Encode(given)
	if want && (errno != api.OK || !bytes.Equal(b, bytesOf(e))) {
		t.Errorf("Encode(%s) = %.60x, %d, not %.60x", show(e), b, errno, bytesOf(e))
	}
	if !want && (errno != api.ErrArg || b != nil) {
		t.Errorf("Encode(%s) = %.60x, %d, not ErrArg alone", show(e), b, errno)
	}
	unchanged(t)
}

func wantDecode(t *testing.T, b []byte, want api.Edit) {
	t.Helper()
	given, unchanged := guardedBytes(b)
	got, errno := edit.Decode(given)
	if errno != api.OK || !same(got, want) {
		t.Errorf("Decode(%.60x) = %s, %d, not %s", b, show(got), errno, show(want))
	}
	spoil(got)
	unchanged(t)
}

func wantRefused(t *testing.T, b []byte, want api.Errno) {
	t.Helper()
	given, unchanged := guardedBytes(b)
	if got, errno := edit.Decode(given); errno != want || !zero(got) {
		t.Errorf("Decode(%d bytes %.80x) = %s, %d, not the error %d alone", len(b), b, show(got), errno, want)
	}
	unchanged(t)
}
