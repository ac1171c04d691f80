package merge_test

import (
	"fmt"
	"math"
	"slices"
	"strings"
	"testing"

	"halyard/api"
	"halyard/merge"
)

// P16.1: rows and what they are as one, by keys and numbers.
var merges = []struct{ rows, want string }{
	{"a5 c1; a7 b2", "a7 a5 b2 c1"},
	{"a7 b2; a5 c1", "a7 a5 b2 c1"},
	{"a1 b1; c1 d1", "a1 b1 c1 d1"},
	{"c1 d1; a1 b1", "a1 b1 c1 d1"},
	{"a1 c1 e1; b1 d1 f1", "a1 b1 c1 d1 e1 f1"},
	{"a1 b1 c1 d1; b2", "a1 b2 b1 c1 d1"},
	{"a9 a7 a5 a3", "a9 a7 a5 a3"},
	{"a9 a5 a1; a7 a3; a8 a6 a4 a2", "a9 a8 a7 a6 a5 a4 a3 a2 a1"},
	{"a9 b1; a10 b2; a8 b3", "a10 a9 a8 b3 b2 b1"},
	{"a1", "a1"},
	{";;", ""},
	{"; a1;", "a1"},
	{"; b1;; a1;", "a1 b1"},
	{"a1 ab1 abc1; aa1 abb1 b1", "a1 aa1 ab1 abb1 abc1 b1"},
	{"b1; ab1; a1; aa1; ba1", "a1 aa1 ab1 b1 ba1"},
	{"a1; b1; c1; d1; e1; f1; g1", "a1 b1 c1 d1 e1 f1 g1"},
	{"g1; f1; e1; d1; c1; b1; a1", "a1 b1 c1 d1 e1 f1 g1"},
}

func TestMergePutsRowsTogether(t *testing.T) {
	for _, c := range merges {
		rows := parse(c.rows)
		l, errno := merge.Merge(rows)
		if errno != api.OK || brief(l) != c.want {
			t.Errorf("Merge(%s) = %s, %d; want %s", c.rows, brief(l), errno, c.want)
		}
		takes(t, rows, mergedByWords(rows))
	}
	takes(t, nil, nil)
	takes(t, [][]api.Entry{}, nil)
	takes(t, [][]api.Entry{nil}, nil)
	takes(t, [][]api.Entry{{}, nil, {}}, nil)
}

// P16.1: each field of an entry is told as it stood.
func TestMergeTellsWholeEntries(t *testing.T) {
	a := []api.Entry{gone("a", 9), {Key: []byte("a"), Seq: 4, Until: 1 << 62, Value: []byte("four")}, {Key: []byte("b"), Seq: 1 << 62}}
	b := []api.Entry{{Key: []byte("a"), Seq: 6, Until: 8, Value: []byte{0, 255}}, gone("c", 1)}
	takes(t, [][]api.Entry{a, b}, []api.Entry{a[0], b[0], a[1], a[2], b[1]})
}

// P16.1: keys stand byte by byte, a beginning ahead of what goes on, whatever their bytes; also no key at all.
func TestMergeOrdersKeysByBytes(t *testing.T) {
	keys := []string{"", "\x00", "\x00\x00", "\x00\xff", "\x7f", "\x80", "\xff", "\xff\x00", "\xff\xff", strings.Repeat("\xff", 512), strings.Repeat("\xff", 600)}
	var want []api.Entry
	var rows [][]api.Entry
	for _, k := range keys {
		want = append(want, of(k, 3, "x"))
		rows = append(rows, []api.Entry{of(k, 3, "x")})
	}
	for range rows {
		rows = append(rows[1:], rows[0])
		takes(t, rows, want)
	}
	slices.Reverse(rows)
	takes(t, rows, want)
}

// P16.1: entries of one key and number: each, in the order of their rows.
func TestMergeKeepsEqualsInRowOrder(t *testing.T) {
	for n := 2; n <= mostRows; n++ {
		var rows [][]api.Entry
		var want []api.Entry
		for i := range n {
			rows = append(rows, []api.Entry{of("k", 5, fmt.Sprint(" of ", i))})
			want = append(want, rows[i][0])
		}
		takes(t, rows, want)
	}
	rows := parse("a5 a3 b1; a5 b1; a7 a3; b1")
	at := func(row, i int) api.Entry { return rows[row][i] }
	takes(t, rows, []api.Entry{at(2, 0), at(0, 0), at(1, 0), at(0, 1), at(2, 1), at(0, 2), at(1, 1), at(3, 0)})
	whole := parse("a3 b2 c1; a3 b2 c1; a3 b2 c1")
	takes(t, whole, []api.Entry{whole[0][0], whole[1][0], whole[2][0], whole[0][1], whole[1][1], whole[2][1], whole[0][2], whole[1][2], whole[2][2]})
}

// P16.1: only the order is asked, not whether an entry may be.
func TestMergeTakesEntriesThatMayNotBe(t *testing.T) {
	odd := []api.Entry{
		{Key: nil, Seq: math.MaxInt64},
		{Key: nil, Seq: 0, Value: []byte("of no key")},
		{Key: nil, Seq: math.MinInt64},
		{Key: []byte("a"), Seq: -1, Until: -5},
		{Key: []byte("a"), Seq: -2, Gone: true, Until: 3, Value: []byte("gone, with a value")},
		{Key: []byte("b"), Seq: 1<<62 + 1, Until: math.MaxInt64, Value: make([]byte, 3000)},
		{Key: make([]byte, 0), Seq: 1},
	}
	row := odd[:6]
	takes(t, [][]api.Entry{row}, row)
	takes(t, [][]api.Entry{{row[1], row[4]}, {row[0], row[2], row[3], row[5]}}, row)
	takes(t, [][]api.Entry{row[:2], {odd[6]}}, []api.Entry{row[0], odd[6], row[1]})
}

// P16.1: rows that are not in order.
func TestMergeRefusesRowsNotInOrder(t *testing.T) {
	for _, text := range []string{
		"b1 a1", "a1 a1", "a1 a2", "a5 a7 b1", "ab1 a1", "a1 b1 b1", "a3 a2 a1 a1", "a1 c1 b1", "a2 b9 a1",
		"b1; a2 a2", "; b1; c1 b1", "a1 b1; c1 d1; e1 d1", "b1 a1; d1 c1",
	} {
		refuses(t, parse(text), api.ErrOrder)
	}
	refuses(t, [][]api.Entry{{{Key: nil, Seq: 1}, {Key: []byte{}, Seq: 1}}}, api.ErrOrder)
	twice := []api.Entry{of("a", 1, "x"), of("a", 1, "y")}
	refuses(t, [][]api.Entry{twice}, api.ErrOrder)
	takes(t, [][]api.Entry{twice[:1], twice[1:]}, twice)
}

// P16.1: each two of a row that change places, and each one told twice, are met.
func TestMergeMeetsEachFault(t *testing.T) {
	rows := parse("a9 a5 b7 c3 c2 d1 e8; b6 e9")
	takes(t, rows, mergedByWords(rows))
	for i := range rows[0] {
		twice := slices.Insert(slices.Clone(rows[0]), i, rows[0][i])
		refuses(t, [][]api.Entry{rows[1], twice}, api.ErrOrder)
		for j := range i {
			turned := slices.Clone(rows[0])
			turned[i], turned[j] = turned[j], turned[i]
			refuses(t, [][]api.Entry{turned, rows[1]}, api.ErrOrder)
		}
	}
}

// P16.1: 64 rows and not one more, whatever is in them.
func TestMergeCountsRows(t *testing.T) {
	takes(t, make([][]api.Entry, 64), nil)
	refuses(t, make([][]api.Entry, 65), api.ErrMany)
	refuses(t, make([][]api.Entry, 1000), api.ErrMany)
	var rows [][]api.Entry
	for i := range 65 {
		rows = append(rows, []api.Entry{of(fmt.Sprintf("k%02d", i%7), int64(1+i), "")})
	}
	takes(t, rows[:63], mergedByWords(rows[:63]))
	takes(t, rows[:64], mergedByWords(rows[:64]))
	refuses(t, rows, api.ErrMany)
}

// P16.1: 40000 entries together and not one more, in one row or in many.
func TestMergeCountsEntries(t *testing.T) {
	long := falling("k", mostEntries+1)
	for _, cuts := range [][]int{{}, {0}, {1}, {20000}, {39999}, {10000, 10000, 39000}} {
		for _, n := range []int{mostEntries - 1, mostEntries, mostEntries + 1} {
			var rows [][]api.Entry
			from := 0
			for _, cut := range append(slices.Clone(cuts), n) {
				rows = append(rows, long[from:cut])
				from = cut
			}
			l, errno := merge.Merge(rows)
			i, same := merge.New(rows)
			if n > mostEntries {
				if errno != api.ErrMany || same != api.ErrMany || l != nil || i != nil {
					t.Errorf("%d entries cut at %d: %d and %d, %d entries", n, cuts, errno, same, len(l))
				}
				continue
			}
			if errno != api.OK || same != api.OK || !sameRow(l, long[:n]) || i.Left() != n {
				t.Errorf("%d entries cut at %d: %d and %d, %d entries", n, cuts, errno, same, len(l))
			}
		}
	}
	var rows [][]api.Entry
	for range mostRows {
		rows = append(rows, long[:mostEntries/mostRows])
	}
	if l, errno := merge.Merge(rows); errno != api.OK || len(l) != mostEntries {
		t.Errorf("64 rows of 625 entries: %d, %d entries", errno, len(l))
	}
	rows[63] = long[:mostEntries/mostRows+1]
	refuses(t, rows, api.ErrMany)
}

// P16.1: where both apply, it is the order that is told.
func TestMergeTellsOrderAheadOfMany(t *testing.T) {
	bad := parse("b1 a1")[0]
	many := make([][]api.Entry, 64)
	refuses(t, append(slices.Clone(many), bad), api.ErrOrder)
	refuses(t, append([][]api.Entry{bad}, many...), api.ErrOrder)
	refuses(t, slices.Concat(many, many, [][]api.Entry{bad}), api.ErrOrder)
	long := falling("k", mostEntries+1)
	for _, rows := range [][][]api.Entry{{long, bad}, {bad, long}, {append(slices.Clone(long), long[0])}, {long, long, nil, bad}} {
		l, errno := merge.Merge(rows)
		i, same := merge.New(rows)
		if errno != api.ErrOrder || same != api.ErrOrder || l != nil || i != nil {
			t.Errorf("too many and not in order: %d and %d", errno, same)
		}
	}
}

// P16.3: Merge of one row is it; also of one among rows of nothing.
func TestMergeOfOneRowIsIt(t *testing.T) {
	for _, c := range merges {
		l := mergedByWords(parse(c.rows))
		if hasEquals(l) {
			continue
		}
		takes(t, [][]api.Entry{l}, l)
		takes(t, [][]api.Entry{nil, l, nil}, l)
	}
}

// P16.3: in which order rows are handed in makes no difference.
func TestMergeOfRowsInAnyOrder(t *testing.T) {
	for _, c := range merges {
		rows := parse(c.rows)
		if len(rows) > 5 {
			continue
		}
		want := mergedByWords(rows)
		for _, order := range orders(len(rows)) {
			var turned [][]api.Entry
			for _, i := range order {
				turned = append(turned, rows[i])
			}
			takes(t, turned, want)
		}
	}
}

// P16.3: merging by and by, and merging what is merged, is merging at once.
func TestMergeByAndBy(t *testing.T) {
	for _, c := range merges {
		rows := parse(c.rows)
		want := mergedByWords(rows)
		var sum []api.Entry
		for _, row := range rows {
			l, errno := merge.Merge([][]api.Entry{sum, row})
			if errno != api.OK {
				t.Fatalf("Merge(%s; %s): %d", brief(sum), brief(row), errno)
			}
			sum = l
		}
		if !sameRow(sum, want) {
			t.Errorf("%s by and by: %s; want %s", c.rows, show(sum), show(want))
		}
	}
}

// orders are all orders of the numbers below n.
func orders(n int) [][]int {
	if n == 0 {
		return [][]int{nil}
	}
	var all [][]int
	for _, shorter := range orders(n - 1) {
		for at := range n {
			all = append(all, slices.Insert(slices.Clone(shorter), at, n-1))
		}
	}
	return all
}
