package level_test

import (
	"math"
	"slices"
	"testing"

	"halyard/api"
	"halyard/level"
)

// P15.3

func TestDiffOfOrdinaryVersions(t *testing.T) {
	a := ordinary()
	b := api.Version{Log: 11, Next: 1001, Seq: 31, Tables: []api.Table{line(90, 0, "a", "b"), line(7, 0, "a", "m"), line(20, 1, "a", "c"), line(3, 1, "d", "d"), line(22, 1, "e", "e"), line(9, 2, "a", "z")}}
	wantDiff(t, a, b, api.Edit{Log: 11, Next: 1001, Seq: 31, Add: []api.Table{line(90, 0, "a", "b"), line(20, 1, "a", "c"), line(22, 1, "e", "e"), line(9, 2, "a", "z")}, Remove: []int64{1, 2, 5, 6}})
	b.Log, b.Next, b.Seq = a.Log, a.Next, a.Seq
	wantDiff(t, b, a, changing([]int64{9, 20, 22, 90}, line(2, 0, "c", "z"), line(5, 1, "a", "b"), line(6, 1, "f", "h"), line(1, 3, "b", "y")))
}

func TestDiffOfNothing(t *testing.T) {
	wantDiff(t, api.Version{}, api.Version{}, api.Edit{})
	wantDiff(t, api.Version{Tables: []api.Table{}}, api.Version{}, api.Edit{})
	wantDiff(t, ordinary(), ordinary(), changing(nil))
	wantDiff(t, ordinary(), of(), changing([]int64{1, 2, 3, 5, 6, 7}))
	wantDiff(t, of(), ordinary(), changing(nil, ordinary().Tables...))
	wantDiff(t, api.Version{}, ordinary(), changing(nil, ordinary().Tables...))
}

// A table with the number of another one and any part of its line another is another one.
func TestDiffGoesLineByLine(t *testing.T) {
	a := of(line(9, 0, "a", "b"), line(5, 2, "bb", "dd"), line(7, 3, "a", "b"))
	for _, change := range []func(l *api.Table){
		func(l *api.Table) { l.Level = 1 },
		func(l *api.Table) { l.Size++ },
		func(l *api.Table) { l.Least = []byte("b") },
		func(l *api.Table) { l.Least = []byte("bb\x00") },
		func(l *api.Table) { l.Least = []byte("bc") },
		func(l *api.Table) { l.Most = []byte("d") },
		func(l *api.Table) { l.Most = []byte("dd\x00") },
		func(l *api.Table) { l.Most = []byte("de") },
	} {
		b := of(slices.Clone(a.Tables)...)
		change(&b.Tables[1])
		wantDiff(t, a, b, changing([]int64{5}, b.Tables[1]))
		wantDiff(t, b, a, changing([]int64{5}, a.Tables[1]))
	}
	b := of(a.Tables[0], line(6, 2, "bb", "dd"), a.Tables[2])
	b.Tables[1].Size = a.Tables[1].Size
	wantDiff(t, a, b, changing([]int64{5}, b.Tables[1]))
	// Two that change their numbers with one another.
	a = of(line(5, 1, "a", "b"), line(6, 1, "c", "d"))
	b = of(line(6, 1, "a", "b"), line(5, 1, "c", "d"))
	wantDiff(t, a, b, changing([]int64{5, 6}, b.Tables...))
}

func TestDiffOfMarksThatFall(t *testing.T) {
	for _, n := range []int64{1, 2, 1 << 40, mark} {
		a := api.Version{Log: n, Next: n, Seq: n}
		wantDiff(t, a, a, api.Edit{Log: n, Next: n, Seq: n})
		wantDiff(t, api.Version{Log: n - 1}, a, api.Edit{Log: n, Next: n, Seq: n})
		wantDiff(t, api.Version{Next: n - 1}, a, api.Edit{Log: n, Next: n, Seq: n})
		wantDiff(t, api.Version{Seq: n - 1}, a, api.Edit{Log: n, Next: n, Seq: n})
		for _, below := range []int64{n - 1, 0} {
			refusedDiff(t, a, api.Version{Log: below, Next: n, Seq: n})
			refusedDiff(t, a, api.Version{Log: n, Next: below, Seq: n})
			refusedDiff(t, a, api.Version{Log: n, Next: n, Seq: below})
			refusedDiff(t, a, api.Version{Log: mark, Next: mark, Seq: below})
			refusedDiff(t, a, api.Version{Log: mark, Next: below, Seq: mark})
			refusedDiff(t, a, api.Version{Log: below, Next: mark, Seq: mark})
		}
		for _, bad := range []int64{-1, mark + 1, math.MinInt64, math.MaxInt64} {
			refusedDiff(t, a, api.Version{Log: bad, Next: mark, Seq: mark})
			refusedDiff(t, api.Version{Seq: bad}, a)
		}
	}
}

func TestDiffOfVersionsThatMayNotBe(t *testing.T) {
	for _, bad := range []api.Version{
		of(line(2, 0, "a", "b"), line(3, 0, "c", "d")),
		of(line(2, 1, "a", "b"), line(3, 1, "b", "d")),
		of(line(2, 1, "a", "b"), line(2, 2, "b", "d")),
		of(line(1000, 1, "a", "b")),
		of(line(5, 4, "a", "b")),
	} {
		refusedDiff(t, bad, ordinary())
		refusedDiff(t, ordinary(), bad)
		refusedDiff(t, bad, bad)
	}
}

// Between versions that may be there are at most MaxTables to add, and as many to remove; with one more it is no such version.
func TestDiffOfAsManyAsThereMayBe(t *testing.T) {
	some, others := of(many(1, 1, tables)...), of(many(501, 2, tables)...)
	wantDiff(t, some, others, changing(numbersOf(some.Tables), others.Tables...))
	wantDiff(t, others, some, changing(numbersOf(others.Tables), some.Tables...))
	wantDiff(t, some, of(), changing(numbersOf(some.Tables)))
	wantDiff(t, of(), some, changing(nil, some.Tables...))
	more := of(many(501, 2, tables+1)...)
	refusedDiff(t, some, more)
	refusedDiff(t, more, some)
	refusedDiff(t, of(), more)
	refusedDiff(t, more, of())
	refusedDiff(t, more, of(many(1, 1, tables+1)...))
}

func TestDiffRemovesRising(t *testing.T) {
	a := of(line(3, 0, "a", "b"), line(1, 0, "a", "b"), line(9, 1, "a", "b"), line(8, 1, "c", "d"), line(2, 2, "a", "b"), line(7, 3, "a", "b"), line(200, 3, "c", "d"))
	wantDiff(t, a, of(), changing([]int64{1, 2, 3, 7, 8, 9, 200}))
	wantDiff(t, a, of(a.Tables[3]), changing([]int64{1, 2, 3, 7, 9, 200}))
	full := of(many(1, 0, tables)...)
	numbers := numbersOf(full.Tables)
	slices.Sort(numbers)
	wantDiff(t, full, of(), changing(numbers))
}

func TestDiffTellsMemoryOfItsOwn(t *testing.T) {
	shared := []byte("same")
	lines := make([]api.Table, 40)
	for i := range lines {
		lines[i] = api.Table{Number: int64(40 - i), Level: 0, Size: 1, Least: shared, Most: shared}
	}
	got, errno := level.Diff(of(lines[20:]...), of(lines[:30]...))
	if errno != api.OK || len(got.Add) != 20 || len(got.Remove) != 10 {
		t.Fatalf("%s, %d", showEdit(got), errno)
	}
	spoil(t, got.Add)
	if string(shared) != "same" {
		t.Error("the keys are those that were handed in")
	}
}
