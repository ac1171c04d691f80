package level_test

import (
	"math"
	"math/rand"
	"slices"
	"testing"

	"halyard/api"
	"halyard/level"
)

// P15.1: edits done to versions

func TestApplyOfTheChaptersExample(t *testing.T) {
	one := line(1, 0, "a", "c")
	wantApply(t, api.Version{}, api.Edit{Next: 2, Add: []api.Table{one}}, api.Version{Next: 2, Tables: []api.Table{one}})
}

func TestApplyAddsAndRemoves(t *testing.T) {
	v := ordinary()
	e := api.Edit{Log: 11, Next: 1001, Seq: 39, Add: []api.Table{line(90, 1, "c", "c"), line(8, 0, "b", "b"), line(20, 2, "a", "z"), line(4, 0, "q", "r"), line(30, 3, "z", "z"), line(31, 3, "a", "a")}, Remove: []int64{6, 7}}
	wantApply(t, v, e, api.Version{Log: 11, Next: 1001, Seq: 39, Tables: []api.Table{
		line(8, 0, "b", "b"), line(4, 0, "q", "r"), line(2, 0, "c", "z"),
		line(5, 1, "a", "b"), line(90, 1, "c", "c"), line(3, 1, "d", "d"),
		line(20, 2, "a", "z"),
		line(31, 3, "a", "a"), line(1, 3, "b", "y"), line(30, 3, "z", "z")}})
}

func TestApplyOfNothing(t *testing.T) {
	for _, e := range []api.Edit{{}, {Add: []api.Table{}, Remove: []int64{}}} {
		wantApply(t, api.Version{}, e, api.Version{})
		e.Log, e.Next, e.Seq = 10, 1000, 30
		wantApply(t, ordinary(), e, ordinary())
		wantApply(t, api.Version{}, e, of())
	}
}

func TestApplyRemovesAll(t *testing.T) {
	for _, n := range []int{1, 2, 50, tables} {
		v := of(spread(n)...)
		numbers := numbersOf(v.Tables)
		wantApply(t, v, changing(numbers), of())
		slices.Reverse(numbers)
		wantApply(t, v, changing(numbers), of())
		wantApply(t, of(), changing(nil, v.Tables...), v)
		others := many(500, 2, tables)
		wantApply(t, v, changing(numbers, others...), of(others...))
	}
}

func TestApplyInWhateverOrder(t *testing.T) {
	whole := spread(120)
	from := rand.New(rand.NewSource(15))
	for range 30 {
		var add, stay []api.Table
		for _, l := range whole {
			if from.Intn(3) > 0 {
				add = append(add, l)
			} else {
				stay = append(stay, l)
			}
		}
		from.Shuffle(len(add), func(i, j int) { add[i], add[j] = add[j], add[i] })
		wantApply(t, of(stay...), changing(nil, add...), of(whole...))
		numbers := numbersOf(add)
		from.Shuffle(len(add), func(i, j int) { numbers[i], numbers[j] = numbers[j], numbers[i] })
		wantApply(t, of(whole...), changing(numbers), of(stay...))
		wantApply(t, of(whole...), changing(numbers, add...), of(whole...))
	}
}

// A number that is taken away may come again, as another line or the same.
func TestApplyRemovesAndAddsTheSameNumber(t *testing.T) {
	v := of(line(7, 0, "a", "m"), line(5, 1, "a", "b"), line(6, 1, "c", "d"))
	wantApply(t, v, changing([]int64{5}, line(5, 1, "a", "b")), v)
	wantApply(t, v, changing([]int64{5}, line(5, 1, "e", "f")), of(v.Tables[0], v.Tables[2], line(5, 1, "e", "f")))
	wantApply(t, v, changing([]int64{7, 5, 6}, line(6, 0, "a", "m"), line(7, 1, "a", "b"), line(5, 3, "c", "d")), of(line(6, 0, "a", "m"), line(7, 1, "a", "b"), line(5, 3, "c", "d")))
	wantApply(t, v, changing([]int64{7}, line(7, 3, "a", "m")), of(v.Tables[1], v.Tables[2], line(7, 3, "a", "m")))
	refusedApply(t, v, changing([]int64{8}, line(8, 2, "a", "m")), api.ErrNone)
}

func TestApplyOfNumbersThatAreNoTables(t *testing.T) {
	v := ordinary()
	for _, n := range []int64{4, 8, 9, 999, 1000, number} {
		for _, numbers := range [][]int64{{n}, {7, n}, {n, 7}, {7, 2, 5, n, 3, 6, 1}, {n, 7, 2, 5, 3, 6, 1}} {
			refusedApply(t, v, changing(numbers), api.ErrNone)
		}
		refusedApply(t, of(), changing([]int64{n}), api.ErrNone)
	}
	refusedApply(t, api.Version{}, api.Edit{Remove: []int64{1}}, api.ErrNone)
}

func TestApplyOfNumbersThatStay(t *testing.T) {
	v := ordinary()
	for _, l := range v.Tables {
		refusedApply(t, v, changing(nil, l), api.ErrExists)
		refusedApply(t, v, changing(nil, line(l.Number, 2, "a", "z")), api.ErrExists)
		refusedApply(t, v, changing(nil, line(20, 2, "a", "b"), line(l.Number, 2, "c", "z")), api.ErrExists)
		for _, other := range v.Tables {
			if other.Number != l.Number {
				refusedApply(t, v, changing([]int64{other.Number}, line(l.Number, 2, "a", "z")), api.ErrExists)
			}
		}
	}
}

func TestApplyOfMarksThatFall(t *testing.T) {
	for _, n := range []int64{1, 2, 8, 1 << 40, mark} {
		v := api.Version{Log: n, Next: n, Seq: n}
		wantApply(t, v, api.Edit{Log: n, Next: n, Seq: n}, v)
		for _, below := range []int64{n - 1, 0} {
			refusedApply(t, v, api.Edit{Log: below, Next: n, Seq: n}, api.ErrOrder)
			refusedApply(t, v, api.Edit{Log: n, Next: below, Seq: n}, api.ErrOrder)
			refusedApply(t, v, api.Edit{Log: n, Next: n, Seq: below}, api.ErrOrder)
			refusedApply(t, v, api.Edit{Log: mark, Next: mark, Seq: below}, api.ErrOrder)
			refusedApply(t, v, api.Edit{Log: below, Next: mark, Seq: mark}, api.ErrOrder)
			refusedApply(t, v, api.Edit{Log: mark, Next: below, Seq: mark}, api.ErrOrder)
			wantApply(t, api.Version{Log: below, Next: below, Seq: below}, api.Edit{Log: n, Next: n, Seq: n}, v)
		}
		for _, bad := range []int64{-1, mark + 1, math.MinInt64, math.MaxInt64} {
			refusedApply(t, v, api.Edit{Log: bad, Next: n, Seq: n}, api.ErrArg)
			refusedApply(t, v, api.Edit{Log: n, Next: bad, Seq: n}, api.ErrArg)
			refusedApply(t, v, api.Edit{Log: n, Next: n, Seq: bad}, api.ErrArg)
		}
	}
}

func TestApplyOfHowMany(t *testing.T) {
	for _, there := range []int{0, 1, 100, 199, 200} {
		v := of(many(1, 1, there)...)
		room := tables - there
		for _, add := range []int{0, 1, room, room + 1, tables} {
			want := append(slices.Clone(v.Tables), many(500, 2, add)...)
			if add <= room {
				wantApply(t, v, changing(nil, many(500, 2, add)...), of(want...))
			} else if add <= tables {
				refusedApply(t, v, changing(nil, many(500, 2, add)...), api.ErrMany)
			} else {
				refusedApply(t, v, changing(nil, many(500, 2, add)...), api.ErrArg)
			}
		}
	}
	// What is taken away makes room.
	full := of(many(1, 1, tables)...)
	wantApply(t, full, changing([]int64{1}, line(500, 2, "a", "b")), of(append(slices.Clone(full.Tables[1:]), line(500, 2, "a", "b"))...))
	refusedApply(t, full, changing([]int64{1}, many(500, 2, 2)...), api.ErrMany)
	refusedApply(t, full, changing(nil, line(500, 2, "a", "b")), api.ErrMany)
}

func TestApplyOfEditsThatMayNotBe(t *testing.T) {
	for _, e := range []api.Edit{
		changing([]int64{7, 7}),
		changing([]int64{0}),
		changing([]int64{-1}),
		changing([]int64{number + 1}),
		changing(nil, line(20, 2, "a", "b"), line(20, 3, "z", "z")),
		changing(nil, line(0, 2, "a", "b")),
		changing(nil, line(20, 4, "a", "b")),
		changing(nil, line(20, -1, "a", "b")),
		changing(nil, line(20, 2, "b", "a")),
		changing(nil, line(20, 2, "", "a")),
		changing(nil, api.Table{}),
		changing(nil, many(500, 2, tables+1)...),
		changing(append([]int64{7}, numbersOf(many(500, 2, tables))...)),
	} {
		refusedApply(t, ordinary(), e, api.ErrArg)
		refusedApply(t, api.Version{}, e, api.ErrArg)
	}
}

func TestApplyOfWhatMayNotComeAbout(t *testing.T) {
	v := ordinary()
	for _, add := range [][]api.Table{
		{line(1000, 2, "a", "b")},
		{line(1001, 0, "a", "b")},
		{line(20, 2, "a", "b"), line(1000, 2, "c", "d")},
		{line(20, 1, "b", "c")},  // the Most of one ahead
		{line(20, 1, "c", "d")},  // the Least of one behind
		{line(20, 1, "d", "d")},  // all of one
		{line(20, 1, "a", "z")},  // over them all
		{line(20, 1, "g", "g")},  // within one
		{line(20, 1, "e", "ff")}, // into one
		{line(20, 3, "y", "z")},
		{line(20, 2, "a", "c"), line(21, 2, "c", "d")},
		{line(20, 2, "c", "d"), line(21, 2, "a", "c")},
		{line(20, 2, "a", "b"), line(21, 2, "a", "b")},
	} {
		refusedApply(t, v, changing(nil, add...), api.ErrArg)
	}
	wantApply(t, v, changing([]int64{3}, line(20, 1, "c", "d")), of(v.Tables[0], v.Tables[1], v.Tables[2], line(20, 1, "c", "d"), v.Tables[4], v.Tables[5]))
	wantApply(t, v, changing(nil, line(999, 1, "b\x00", "c\xff")), of(v.Tables[0], v.Tables[1], v.Tables[2], line(999, 1, "b\x00", "c\xff"), v.Tables[3], v.Tables[4], v.Tables[5]))
	wantApply(t, v, changing(nil, line(20, 0, "a", "z")), of(append([]api.Table{line(20, 0, "a", "z")}, v.Tables...)...))
	// Next goes up with the edit.
	e := changing(nil, line(1000, 2, "a", "b"))
	e.Next = 1001
	want := of(append(slices.Clone(v.Tables[:5]), line(1000, 2, "a", "b"), v.Tables[5])...)
	want.Next = 1001
	wantApply(t, v, e, want)
}

// Of each set of errors the first one of the promise's sentence is told.
func TestApplyTellsTheFirstError(t *testing.T) {
	faults := []struct {
		errno  api.Errno
		change func(v *api.Version, e *api.Edit)
	}{
		{api.ErrArg, func(v *api.Version, e *api.Edit) { v.Seq = -1 }},
		{api.ErrArg, func(v *api.Version, e *api.Edit) { e.Remove = append(e.Remove, 3, 3) }},
		{api.ErrNone, func(v *api.Version, e *api.Edit) { e.Remove = append(e.Remove, 777) }},
		{api.ErrExists, func(v *api.Version, e *api.Edit) { e.Add = append(e.Add, line(5, 3, "A", "B")) }},
		{api.ErrOrder, func(v *api.Version, e *api.Edit) { e.Log = 9 }},
		{api.ErrMany, func(v *api.Version, e *api.Edit) { e.Add = append(e.Add, many(500, 2, 150)...) }},
		{api.ErrArg, func(v *api.Version, e *api.Edit) { e.Add = append(e.Add, line(301, 1, "k0050", "k0050")) }},
	}
	for set := range 1 << len(faults) {
		v, e := of(many(1, 1, 100)...), changing([]int64{1, 2}, line(300, 3, "a", "b"))
		want := api.OK
		for i := len(faults) - 1; i >= 0; i-- {
			if set>>i&1 == 1 {
				faults[i].change(&v, &e)
				want = faults[i].errno
			}
		}
		if want != api.OK {
			refusedApply(t, v, e, want)
			continue
		}
		wantApply(t, v, e, of(append(slices.Clone(v.Tables[2:]), line(300, 3, "a", "b"))...))
	}
}

// What is told is the caller's own, also where all that was handed in has one memory.
func TestApplyTellsMemoryOfItsOwn(t *testing.T) {
	shared := []byte("same")
	lines := make([]api.Table, 40)
	for i := range lines {
		lines[i] = api.Table{Number: int64(40 - i), Level: 0, Size: 1, Least: shared, Most: shared}
	}
	v := of(lines[20:]...)
	got, errno := level.Apply(v, changing(nil, lines[:20]...))
	if errno != api.OK || !same(got, of(lines...)) {
		t.Fatalf("%s, %d", showVersion(got), errno)
	}
	spoil(t, got.Tables)
	if string(shared) != "same" {
		t.Error("the keys are those that were handed in")
	}
}
