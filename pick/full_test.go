package pick_test

import (
	"testing"

	"halyard/api"
)

// TestFullLevel0 asks for P17.1: as many tables or more.
func TestFullLevel0(t *testing.T) {
	wantFullOnly(t, of())
	for n := range 4 {
		wantFullOnly(t, of(row(1, 0, n)...))
	}
	for _, n := range []int{4, 5, 6, 100, tables} {
		wantFullOnly(t, of(row(1, 0, n)...), 0)
	}
	// Their bytes make no difference.
	wantFullOnly(t, of(line(3, 0, biggest, "a", "b"), line(2, 0, biggest, "a", "b"), line(1, 0, biggest, "a", "b")))
	// Nor do the tables of other levels.
	wantFullOnly(t, join(row(10, 0, 3), row(20, 1, 10), row(40, 2, 10), row(60, 3, 10)))
	wantFullOnly(t, join(row(10, 0, 4), row(20, 1, 10), row(40, 2, 10), row(60, 3, 10)), 0)
	wantFullOnly(t, join(row(20, 1, 10), row(40, 2, 10), row(60, 3, 10)))
}

// TestFullBytes asks for P17.1: more bytes than the limit.
func TestFullBytes(t *testing.T) {
	for at, most := range map[int]int64{1: limit1, 2: limit2} {
		for _, c := range []struct {
			sizes []int64
			full  bool
		}{
			{[]int64{1}, false}, {[]int64{most - 1}, false}, {[]int64{most}, false}, {[]int64{most + 1}, true}, {[]int64{biggest}, true},
			{[]int64{most - 2, 1}, false}, {[]int64{most - 1, 1}, false}, {[]int64{most - 1, 2}, true}, {[]int64{1, most}, true},
			{[]int64{most / 2, 1, most/2 - 1}, false}, {[]int64{most / 2, 1, most / 2}, true}, {[]int64{biggest, biggest, biggest}, true},
		} {
			lines := row(1, at, len(c.sizes))
			for i := range lines {
				lines[i].Size = c.sizes[i]
			}
			var levels []int
			if c.full {
				levels = append(levels, at)
			}
			wantFullOnly(t, of(lines...), levels...)
			// What other levels have makes no difference.
			wantFull(t, join([]api.Table{line(90, 0, biggest, "a", "z")}, lines, []api.Table{line(91, 3, biggest, "a", "z")}), at, c.full)
		}
	}
	wantFullOnly(t, join([]api.Table{line(9, 1, limit1+1, "a", "b")}, []api.Table{line(8, 2, limit1+1, "a", "b")}), 1)
	wantFullOnly(t, join([]api.Table{line(9, 1, limit1, "a", "b")}, []api.Table{line(8, 2, limit2+1, "a", "b")}), 2)
	wantFullOnly(t, join(row(50, 0, 4), []api.Table{line(9, 1, limit1+1, "a", "b")}, []api.Table{line(8, 2, limit2+1, "a", "b")}), 0, 1, 2)
	wantFullOnly(t, join(row(1, 1, tables)))
}

// TestFullLast asks that level 3 has no limit.
func TestFullLast(t *testing.T) {
	lines := row(1, 3, tables)
	wantFullOnly(t, of(lines...))
	for i := range lines {
		lines[i].Size = biggest
	}
	wantFullOnly(t, of(lines...))
}

// TestFullMayNot asks that a version that may not be is looked at likewise, and that no sum wraps.
func TestFullMayNot(t *testing.T) {
	great := of(line(1, 1, greater, "a", "b"), line(1, 1, greater, "a", "b"), line(3, 2, greater, "b", "a"), line(4, 2, greater, "", ""))
	wantFullOnly(t, great, 1, 2)
	great.Tables[0].Size, great.Tables[2].Size = 1, 2
	wantFullOnly(t, great, 1, 2)
	wantFullOnly(t, of(line(0, 1, lowest, "", ""), line(0, 1, lowest, "", ""), line(0, 2, -1, "", "")))
	wantFullOnly(t, of(line(0, 0, 0, "", ""), line(0, 0, 0, "", ""), line(0, 0, 0, "", ""), line(0, 0, 0, "", "")), 0)
	// Tables of levels that there are none of are counted at no other level.
	wantFullOnly(t, of(line(1, -1, biggest, "a", "b"), line(2, 4, biggest, "a", "b"), line(3, 1<<32+1, biggest, "a", "b"), line(4, 256, biggest, "a", "b")))
	late := of(line(9, 3, 1, "a", "b"), line(8, 2, limit2+1, "a", "b"), line(7, 1, limit1+1, "a", "b"), line(1, 0, 1, "a", "b"), line(2, 0, 1, "a", "b"), line(3, 0, 1, "a", "b"), line(4, 0, 1, "a", "b"))
	late.Log, late.Next, late.Seq = -1, -1, -1
	wantFullOnly(t, late, 0, 1, 2)
}
