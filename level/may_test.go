package level_test

import (
	"math"
	"slices"
	"strings"
	"testing"

	"halyard/api"
	"halyard/level"
)

// P15.1: which versions may be

func TestMayOfOrdinaryVersions(t *testing.T) {
	for _, v := range []api.Version{
		{},
		{Tables: []api.Table{}},
		of(),
		of(line(1, 0, "a", "c")),
		of(line(1, 3, "a", "a")),
		ordinary(),
		{Log: 0, Next: 2, Seq: 0, Tables: []api.Table{line(1, 0, "a", "c")}},
		{Log: 99, Next: 8, Seq: 99, Tables: ordinary().Tables},
		of(line(9, 0, "a", "b"), line(8, 0, "a", "b"), line(1, 0, "a", "b")),
		of(line(9, 1, "a", "b"), line(8, 2, "a", "b"), line(7, 3, "a", "b")),
		of(line(1, 0, "\x00", "\xff"), line(2, 1, "\x00", "\x00"), line(3, 1, "\x00\x00", "\x7f"), line(4, 1, "\x80", "\xff"), line(5, 1, "\xff\x00", "\xff\xff")),
	} {
		wantMay(t, v, true)
	}
}

func TestMayOfTheMarks(t *testing.T) {
	for _, n := range []int64{0, 1, 7, 8, 1 << 40, mark - 1, mark} {
		wantMay(t, api.Version{Log: n}, true)
		wantMay(t, api.Version{Next: n}, true)
		wantMay(t, api.Version{Seq: n}, true)
		log, next, seq := ordinary(), ordinary(), ordinary()
		log.Log, next.Next, seq.Seq = n, n, n
		wantMay(t, log, true)
		wantMay(t, next, n > 7)
		wantMay(t, seq, true)
	}
	for _, n := range []int64{-1, -2, -mark, math.MinInt64, mark + 1, mark + 2, math.MaxInt64} {
		wantMay(t, api.Version{Log: n}, false)
		wantMay(t, api.Version{Next: n}, false)
		wantMay(t, api.Version{Seq: n}, false)
		log, next, seq := ordinary(), ordinary(), ordinary()
		log.Log, next.Next, seq.Seq = n, n, n
		wantMay(t, log, false)
		wantMay(t, next, false)
		wantMay(t, seq, false)
	}
}

func TestMayOfHowMany(t *testing.T) {
	for _, n := range []int{0, 1, 2, 199, 200} {
		wantMay(t, of(spread(n)...), true)
		for at := range 4 {
			wantMay(t, of(many(1, at, n)...), true)
		}
	}
	for _, n := range []int{201, 202, 400, 999} {
		wantMay(t, of(spread(n)...), false)
		for at := range 4 {
			wantMay(t, of(many(1, at, n)...), false)
		}
	}
}

func TestMayOfLines(t *testing.T) {
	full := strings.Repeat("k", longest)
	whole := func(change func(l *api.Table)) api.Version {
		l := line(5, 2, "b", "d")
		change(&l)
		return of(line(8, 0, "a", "z"), line(9, 2, "a", "a\xff"), l, line(7, 3, "a", "z"))
	}
	wantMay(t, whole(func(l *api.Table) {}), true)
	wantMay(t, whole(func(l *api.Table) { l.Size = biggest }), true)
	wantMay(t, whole(func(l *api.Table) { l.Size = 1 }), true)
	wantMay(t, whole(func(l *api.Table) { l.Most = l.Least }), true)
	wantMay(t, whole(func(l *api.Table) { l.Least, l.Most = []byte(full), []byte(full) }), true)
	for _, change := range []func(l *api.Table){
		func(l *api.Table) { l.Number = 0 },
		func(l *api.Table) { l.Number = -1 },
		func(l *api.Table) { l.Number = math.MinInt64 },
		func(l *api.Table) { l.Level = -1 },
		func(l *api.Table) { l.Level = 4 },
		func(l *api.Table) { l.Size = 0 },
		func(l *api.Table) { l.Size = -1 },
		func(l *api.Table) { l.Size = biggest + 1 },
		func(l *api.Table) { l.Least = nil },
		func(l *api.Table) { l.Most = nil },
		func(l *api.Table) { l.Least, l.Most = []byte("d"), []byte("c") },
		func(l *api.Table) { l.Most = []byte(full + "k") },
		func(l *api.Table) { l.Least, l.Most = []byte(full+"k"), []byte(full+"k") },
	} {
		wantMay(t, whole(change), false)
	}
	for _, at := range []int{-1, 4, 5, math.MinInt64, math.MaxInt64} {
		wantMay(t, of(line(5, at, "a", "b")), false)
	}
}

func TestMayOfNumbersAndNext(t *testing.T) {
	for _, n := range []int64{1, 2, 7, 200, number - 1, number} {
		one := api.Table{Number: n, Level: 1, Size: 1, Least: []byte("a"), Most: []byte("b")}
		for next, want := range map[int64]bool{0: false, n - 1: false, n: false, n + 1: true, n + 2: true, mark: true} {
			wantMay(t, api.Version{Next: next, Tables: []api.Table{one}}, want)
		}
		one.Number = number + n
		wantMay(t, api.Version{Next: mark, Tables: []api.Table{one}}, false)
	}
	// Each is asked, wherever it stands.
	lines := spread(tables)
	for i := 0; i < tables; i += 1 + i%8 {
		v := of(slices.Clone(lines)...)
		v.Next = int64(tables + 2)
		if lines[i].Level > 0 || i == 0 {
			v.Tables[i].Number = v.Next - 1
			wantMay(t, v, true)
			v.Tables[i].Number = v.Next
			wantMay(t, v, false)
		}
	}
}

func TestMayOfNumbersThatStandTwice(t *testing.T) {
	wantMay(t, of(line(5, 0, "a", "b"), line(5, 0, "c", "d")), false)
	wantMay(t, of(line(5, 0, "a", "b"), line(5, 0, "a", "b")), false)
	wantMay(t, of(line(5, 0, "a", "b"), line(5, 1, "a", "b")), false)
	wantMay(t, of(line(5, 1, "a", "b"), line(5, 1, "c", "d")), false)
	wantMay(t, of(line(5, 1, "a", "b"), line(6, 1, "c", "d"), line(5, 1, "e", "f")), false)
	wantMay(t, of(line(5, 0, "a", "b"), line(4, 0, "a", "b"), line(6, 1, "c", "d"), line(5, 3, "e", "f")), false)
	wantMay(t, of(line(5, 1, "a", "b"), line(5, 2, "a", "b"), line(5, 3, "a", "b")), false)
	lines := spread(tables)
	for i := 50; i < tables; i += 7 {
		v := of(slices.Clone(lines)...)
		v.Tables[i].Number = v.Tables[i-50].Number
		wantMay(t, v, false)
	}
}

func TestMayOfTheOrder(t *testing.T) {
	// Level 0 falls by number, whatever the keys are.
	wantMay(t, of(line(2, 0, "a", "b"), line(3, 0, "c", "d")), false)
	wantMay(t, of(line(3, 0, "c", "d"), line(2, 0, "a", "b")), true)
	wantMay(t, of(line(3, 0, "a", "b"), line(2, 0, "c", "d")), true)
	wantMay(t, of(line(9, 0, "a", "b"), line(2, 0, "a", "b"), line(3, 0, "c", "d")), false)
	// The others rise by key, whatever the numbers are.
	for at := 1; at < 4; at++ {
		wantMay(t, of(line(2, at, "a", "b"), line(3, at, "c", "d")), true)
		wantMay(t, of(line(3, at, "a", "b"), line(2, at, "c", "d")), true)
		wantMay(t, of(line(3, at, "c", "d"), line(2, at, "a", "b")), false)
		wantMay(t, of(line(2, at, "c", "d"), line(3, at, "a", "b")), false)
	}
	// Levels rise, and may be left out.
	for first := range 4 {
		for second := range 4 {
			wantMay(t, of(line(8, first, "a", "b"), line(5, second, "c", "d")), first <= second)
			wantMay(t, of(line(8, first, "c", "d"), line(5, second, "a", "b")), first < second || first+second == 0)
		}
	}
	wantMay(t, of(line(8, 1, "a", "b"), line(5, 2, "c", "d"), line(6, 1, "e", "f")), false)
	wantMay(t, of(line(8, 0, "a", "b"), line(5, 1, "c", "d"), line(6, 0, "e", "f")), false)
}

func TestMayOfTablesSideBySide(t *testing.T) {
	for at := range 4 {
		for _, c := range []struct {
			most, least string
			apart       bool
		}{
			{"b", "c", true}, {"b", "b", false}, {"b", "b\x00", true}, {"b\x00", "b", false}, {"b", "a", false}, {"b", "a\xff", false},
			{"b\xff", "c", true}, {"bb", "c", true}, {"bb", "b", false}, {"\x7f", "\x80", true}, {"\xff", "\xff\x00", true}, {"\xff\xff", "\xff", false},
		} {
			v := of(line(9, at, "A", c.most), line(5, at, c.least, "\xff\xff\xff"))
			wantMay(t, v, c.apart || at == 0)
		}
		wantMay(t, of(line(9, at, "a", "z"), line(5, at, "c", "d")), at == 0)
		wantMay(t, of(line(9, at, "c", "d"), line(5, at, "a", "z")), at == 0)
		wantMay(t, of(line(9, at, "a", "z"), line(5, at, "a", "z")), at == 0)
	}
	// Of each pair, wherever it stands.
	for at := 1; at < 4; at++ {
		for i := 1; i < tables; i += 18 {
			v := of(many(1, at, tables)...)
			v.Tables[i-1].Most = v.Tables[i].Least
			wantMay(t, v, false)
		}
	}
	lines := spread(tables)
	for i := 1; i < tables; i += 1 + i%4 {
		v := of(slices.Clone(lines)...)
		v.Tables[i-1], v.Tables[i] = v.Tables[i], v.Tables[i-1]
		wantMay(t, v, false)
	}
}

// Of as many tables as there may be and more each call ends at once.
func TestMayOfVeryMany(t *testing.T) {
	v := of(many(1, 1, 200)...)
	for len(v.Tables) < 1<<16 {
		v.Tables = append(v.Tables, v.Tables...)
	}
	if level.May(v) {
		t.Error("it may be")
	}
	if _, errno := level.Apply(v, api.Edit{Log: mark, Next: mark, Seq: mark}); errno != api.ErrArg {
		t.Error(errno)
	}
	if len(level.At(v, 1)) != len(v.Tables) || len(level.At(v, 0)) != 0 {
		t.Error("At of many")
	}
}
