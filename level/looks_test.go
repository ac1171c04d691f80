package level_test

import (
	"math"
	"strings"
	"testing"

	"halyard/api"
	"halyard/level"
)

// P15.2

func TestAt(t *testing.T) {
	v := ordinary()
	wantAt(t, v, 0, 7, 2)
	wantAt(t, v, 1, 5, 3, 6)
	wantAt(t, v, 2)
	wantAt(t, v, 3, 1)
	for _, at := range []int{-1, 4, 5, math.MinInt64, math.MaxInt64} {
		wantAt(t, v, at)
	}
	for at := range 4 {
		wantAt(t, api.Version{}, at)
		full := of(many(1, at, tables)...)
		wantAt(t, full, at, numbersOf(full.Tables)...)
		wantAt(t, full, (at+1)%4)
	}
}

func TestSize(t *testing.T) {
	v := ordinary()
	for at, want := range map[int]int64{0: 90, 1: 140, 2: 0, 3: 10, -1: 0, 4: 0, math.MinInt64: 0, math.MaxInt64: 0} {
		wantSize(t, v, at, want)
		wantSize(t, api.Version{}, at, 0)
	}
	full := many(1, 2, tables)
	for i := range full {
		full[i].Size = biggest
	}
	wantSize(t, of(full...), 2, biggest*tables)
}

// The sums of versions that may not be do not wrap.
func TestSizeOfSizesThatMayNotBe(t *testing.T) {
	sized := func(sizes ...int64) api.Version {
		var v api.Version
		for _, n := range sizes {
			v.Tables = append(v.Tables, api.Table{Size: n}, api.Table{Size: 77, Level: 1})
		}
		return v
	}
	for _, c := range []struct {
		sizes []int64
		want  int64
	}{
		{[]int64{mark}, mark},
		{[]int64{mark - 1}, mark - 1},
		{[]int64{mark - 1, 1}, mark},
		{[]int64{mark - 2, 1}, mark - 1},
		{[]int64{mark, 1}, mark},
		{[]int64{mark, mark}, mark},
		{[]int64{mark, mark, mark, mark, mark}, mark},
		{[]int64{1, mark}, mark},
		{[]int64{math.MaxInt64}, mark},
		{[]int64{math.MaxInt64, math.MaxInt64}, mark},
		{[]int64{math.MaxInt64, math.MaxInt64, 2}, mark},
		{[]int64{-1}, 0},
		{[]int64{5, -1}, 5},
		{[]int64{-1, 5, 3}, 8},
		{[]int64{math.MinInt64, math.MinInt64}, 0},
		{[]int64{math.MinInt64, math.MaxInt64, -1}, mark},
	} {
		wantSize(t, sized(c.sizes...), 0, c.want)
	}
}

func TestOverlapOfTheChaptersExample(t *testing.T) {
	wantOverlap(t, of(line(1, 1, "a", "b"), line(2, 1, "c", "c"), line(3, 1, "e", "f")), 1, "b", "d", 1, 2)
}

func TestOverlap(t *testing.T) {
	v := of(line(9, 0, "c", "m"), line(2, 0, "a", "d"), line(1, 0, "n", "p"), line(5, 1, "b", "bb"), line(8, 1, "c", "c"), line(6, 1, "ee", "f"), line(7, 2, "c", "d"))
	for _, c := range []struct {
		least, most string
		want        []int64
	}{
		{"a", "z", []int64{5, 8, 6}},
		{"b", "f", []int64{5, 8, 6}},
		{"bb", "ee", []int64{5, 8, 6}},
		{"bb\x00", "ed\xff", []int64{8}},
		{"bb", "bb", []int64{5}},
		{"b", "b", []int64{5}},
		{"ba", "ba", []int64{5}},
		{"a\xff", "a\xff\xff", nil},
		{"a", "b", []int64{5}},
		{"bb\x00", "bz", nil},
		{"c", "c", []int64{8}},
		{"b\xff", "c", []int64{8}},
		{"c", "d", []int64{8}},
		{"c\x00", "ed", nil},
		{"c\x00", "ee", []int64{6}},
		{"f", "z", []int64{6}},
		{"f\x00", "z", nil},
		{"\x00", "\x01", nil},
		{"", "z", []int64{5, 8, 6}},
		{"", "", nil},
		{"a", "", nil},
		{"", "a", nil},
		{"\xff", "\xff\xff", nil},
	} {
		wantOverlap(t, v, 1, c.least, c.most, c.want...)
	}
	wantOverlap(t, v, 0, "d", "e", 9, 2)
	wantOverlap(t, v, 0, "m", "n", 9, 1)
	wantOverlap(t, v, 0, "a", "z", 9, 2, 1)
	wantOverlap(t, v, 0, "e", "e", 9)
	wantOverlap(t, v, 2, "a", "z", 7)
	for _, at := range []int{3, 4, -1, math.MinInt64, math.MaxInt64} {
		wantOverlap(t, v, at, "a", "z")
	}
	wantOverlap(t, api.Version{}, 0, "a", "z")
	wantOverlap(t, v, 1, strings.Repeat("c", 5000), strings.Repeat("e", 5000), 6)
}

// The chapter's two conditions hold where least is behind most as well.
func TestOverlapOfLeastBehindMost(t *testing.T) {
	v := of(line(5, 1, "a", "b"), line(8, 1, "c", "f"), line(6, 1, "h", "k"))
	wantOverlap(t, v, 1, "e", "d", 8)
	wantOverlap(t, v, 1, "f", "c", 8)
	wantOverlap(t, v, 1, "f\x00", "c")
	wantOverlap(t, v, 1, "f", "b\xff")
	wantOverlap(t, v, 1, "h", "f")
	wantOverlap(t, v, 1, "z", "a")
	wantOverlap(t, v, 1, "e", "")
}

func TestFind(t *testing.T) {
	v := of(line(9, 0, "c", "m"), line(4, 0, "a", "d"), line(1, 0, "c", "c"), line(5, 1, "b", "bb"), line(8, 1, "c", "c"), line(6, 1, "ee", "f"), line(7, 2, "c", "d"), line(3, 3, "a", "b"), line(2, 3, "c", "f"))
	for key, want := range map[string][]int64{
		"a":        {4, 3},
		"b":        {4, 5, 3},
		"b\x00":    {4, 5},
		"bb":       {4, 5},
		"bb\x00":   {4},
		"b\xff":    {4},
		"c":        {9, 4, 1, 8, 7, 2},
		"c\x00":    {9, 4, 7, 2},
		"d":        {9, 4, 7, 2},
		"d\x00":    {9, 2},
		"ed\xff":   {9, 2},
		"ee":       {9, 6, 2},
		"f":        {9, 6, 2},
		"f\x00":    {9},
		"m":        {9},
		"m\x00":    nil,
		"\x00":     nil,
		"":         nil,
		"\xff":     nil,
		"z":        nil,
		"\x60\xff": nil,
	} {
		wantFind(t, v, key, want...)
		wantFind(t, api.Version{}, key)
	}
	wantFind(t, v, strings.Repeat("c", 5000), 9, 4, 7, 2)
}

func TestFindOfManyTables(t *testing.T) {
	for at := 1; at < 4; at++ {
		v := of(many(1, at, tables)...)
		for i := 0; i < tables; i += 1 + i%9 {
			l := v.Tables[i]
			for _, key := range []string{string(l.Least), string(l.Least) + "\x00", string(l.Least) + "y\xff", string(l.Most)} {
				wantFind(t, v, key, l.Number)
			}
			wantFind(t, v, string(l.Most)+"\x00")
		}
	}
	v := of(many(1, 0, tables)...)
	for i := range v.Tables {
		v.Tables[i].Least, v.Tables[i].Most = []byte("a"), []byte("b")
	}
	wantFind(t, v, "a", numbersOf(v.Tables)...)
	wantFind(t, v, "b\x00")
}

// Rows that are in no order are told in order; those that stand at one place, as they stand.
func TestLooksAtVersionsThatMayNotBe(t *testing.T) {
	v := api.Version{Tables: []api.Table{line(2, 1, "c", "d"), line(7, 0, "a", "m"), line(9, 0, "c", "z"), line(3, 1, "a", "c"), {Number: 7, Level: 0, Size: 5, Least: []byte("b"), Most: []byte("c")}, line(4, 3, "c", "c"), line(1, 2, "c", "a"), line(6, 1, "c", "c"), line(5, 9, "a", "z")}}
	wantAt(t, v, 0, 9, 7, 7)
	wantAt(t, v, 1, 3, 2, 6)
	wantAt(t, v, 9, 5)
	wantOverlap(t, v, 0, "a", "b", 7, 7)
	wantOverlap(t, v, 1, "c", "c", 3, 2, 6)
	wantFind(t, v, "c", 9, 7, 7, 3, 2, 6, 4, 5)
	if got := level.At(v, 0); got[1].Size != 70 || got[2].Size != 5 {
		t.Errorf("those at one place changed places: %s", show(got))
	}
	wantSize(t, v, 0, 70+90+5)
	// Sizes rise by where they stood.
	var alike api.Version
	for i := range 200 {
		place := []byte{byte('a' + i*i%7)}
		alike.Tables = append(alike.Tables, api.Table{Number: int64(i * i % 7), Size: int64(i)}, api.Table{Level: 1, Size: int64(i), Least: place, Most: place})
	}
	for at := range 2 {
		got := level.At(alike, at)
		for i := 1; i < len(got); i++ {
			if goesAhead(got[i], got[i-1]) || !goesAhead(got[i-1], got[i]) && got[i-1].Size > got[i].Size {
				t.Fatalf("At(%d) is in no order: %v, %v", at, got[i-1], got[i])
			}
		}
	}
	for _, empty := range [][]api.Table{{{}}, {{}, {}}, make([]api.Table, 300)} {
		raw := api.Version{Tables: empty}
		if len(level.At(raw, 0)) != len(empty) || len(level.Find(raw, nil)) != len(empty) || len(level.Overlap(raw, 0, nil, nil)) != len(empty) || level.Size(raw, 0) != 0 {
			t.Errorf("of %d lines of zeros others were told", len(empty))
		}
	}
}

func TestLooksTellMemoryOfTheirOwn(t *testing.T) {
	shared := []byte("same")
	v := of()
	for i := range 40 {
		v.Tables = append(v.Tables, api.Table{Number: int64(40 - i), Level: 0, Size: 1, Least: shared, Most: shared})
	}
	for _, got := range [][]api.Table{level.At(v, 0), level.Overlap(v, 0, shared, shared), level.Find(v, shared)} {
		if len(got) != 40 {
			t.Fatalf("%d lines", len(got))
		}
		spoil(t, got)
		if string(shared) != "same" || v.Tables[0].Number != 40 {
			t.Error("what is told is what was handed in")
		}
	}
}
