package pick_test

import (
	"fmt"
	"slices"
	"strings"
	"testing"

	"halyard/api"
	"halyard/pick"
)

// full0 are four tables of level 0 whose keys go from d to p.
func full0() []api.Table {
	return []api.Table{line(99, 0, 5, "h", "j"), line(97, 0, 5, "d", "f"), line(92, 0, 5, "g", "p"), line(91, 0, 5, "e", "k")}
}

// under1 are tables of level 1 around the keys d to p.
func under1() []api.Table {
	return []api.Table{line(5, 1, 5, "a", "b"), line(4, 1, 5, "c", "cz"), line(9, 1, 5, "e", "f"), line(8, 1, 5, "h", "h"), line(2, 1, 5, "q", "r"), line(3, 1, 5, "s", "t")}
}

// TestNextExample asks for the chapter's example.
func TestNextExample(t *testing.T) {
	four := []api.Table{line(5, 0, 10, "a", "c"), line(4, 0, 10, "b", "b"), line(3, 0, 10, "a", "a"), line(2, 0, 10, "c", "d")}
	wantNext(t, join(four, []api.Table{line(1, 1, 10, "b", "z")}), 0, 1, 5, 4, 3, 2, 1)
	wantNoNext(t, join(four[1:], []api.Table{line(1, 1, 10, "b", "z")}))
}

// TestNextNone asks for P17.2: no level is full.
func TestNextNone(t *testing.T) {
	wantNoNext(t, api.Version{})
	wantNoNext(t, of())
	wantNoNext(t, of(line(1, 0, biggest, "a", "z")))
	wantNoNext(t, of(line(1, 1, limit1, "a", "z")))
	wantNoNext(t, of(line(1, 2, limit2, "a", "z")))
	wantNoNext(t, of(line(1, 3, biggest, "a", "z")))
	wantNoNext(t, join(full0()[1:], under1(), []api.Table{line(70, 2, limit2, "a", "z"), line(71, 3, biggest, "a", "z")}))
	wantNoNext(t, of(row(1, 3, tables)...))
}

// TestNextLevel0 asks for P17.2: of level 0 all its tables, however many.
func TestNextLevel0(t *testing.T) {
	wantNext(t, of(full0()...), 0, 1, 99, 97, 92, 91)
	wantNext(t, join(full0(), under1()), 0, 1, 99, 97, 92, 91, 9, 8)
	five := append(full0(), line(90, 0, 5, "c", "c"))
	wantNext(t, join(five, under1()), 0, 1, 99, 97, 92, 91, 90, 4, 9, 8)
	// Tables that only lie between those of level 0 come along: what counts is the span.
	apart := []api.Table{line(99, 0, 5, "a", "b"), line(98, 0, 5, "y", "z"), line(97, 0, 5, "a", "b"), line(96, 0, 5, "y", "z")}
	wantNext(t, join(apart, []api.Table{line(1, 1, 5, "k", "m")}), 0, 1, 99, 98, 97, 96, 1)
	// One whose keys lie within another's changes nothing.
	within := []api.Table{line(99, 0, 5, "k", "l"), line(98, 0, 5, "b", "y"), line(97, 0, 5, "m", "m"), line(96, 0, 5, "b", "c")}
	wantNext(t, join(within, []api.Table{line(3, 1, 5, "a", "az"), line(2, 1, 5, "x", "y"), line(1, 1, 5, "yz", "z")}), 0, 1, 99, 98, 97, 96, 2)
	// Nor do the tables of the levels below the next one.
	wantNext(t, join(full0(), under1(), []api.Table{line(70, 2, 5, "a", "z"), line(71, 3, 5, "a", "z")}), 0, 1, 99, 97, 92, 91, 9, 8)
	all := row(1, 0, tables)
	want := make([]int64, tables)
	for i := range want {
		want[i] = int64(tables - i)
	}
	wantNext(t, of(all...), 0, 1, want...)
	wantNext(t, join(row(101, 0, 100), row(1, 1, 100)), 0, 1, slices.Concat(want[:100], upTo(100))...)
}

// upTo are the numbers from 1 on.
func upTo(n int64) []int64 {
	var l []int64
	for i := int64(1); i <= n; i++ {
		l = append(l, i)
	}
	return l
}

// TestNextOthers asks for P17.2: of levels 1 and 2 the table with the least Number, wherever it stands.
func TestNextOthers(t *testing.T) {
	for at, most := range map[int]int64{1: limit1, 2: limit2} {
		for _, numbers := range [][]int64{{3, 5, 7}, {5, 3, 7}, {7, 5, 3}, {5, 7, 3}, {3, 7, 5}} {
			var lines []api.Table
			for i, key := range []string{"b", "f", "j"} {
				lines = append(lines, line(numbers[i], at, most, key, key+"z"))
			}
			wantNext(t, of(lines...), at, at+1, 3)
			next := []api.Table{line(4, at+1, 5, "a", "b"), line(2, at+1, 5, "bz", "f"), line(9, at+1, 5, "fa", "fb"), line(6, at+1, 5, "g", "i"), line(1, at+1, 5, "jz", "k")}
			want := [][]int64{{3, 4, 2}, {3, 2, 9}, {3, 1}}[slices.Index(numbers, 3)]
			wantNext(t, join(lines, next), at, at+1, want...)
		}
		wantNext(t, of(line(8, at, most+1, "a", "z")), at, at+1, 8)
		wantNoNext(t, of(line(8, at, most, "a", "z")))
		// A table of little size goes if its number is the least.
		wantNext(t, of(line(8, at, biggest, "a", "f"), line(7, at, 1, "g", "z"), line(9, at, biggest, "zz", "zzz")), at, at+1, 7)
	}
	// Tables of other levels have lesser numbers.
	wantNext(t, of(line(2, 0, 5, "a", "z"), line(1, 0, 5, "a", "z"), line(9, 1, limit1+1, "a", "b"), line(3, 2, 5, "c", "d"), line(4, 3, 5, "a", "b")), 1, 2, 9)
	last := row(1, 2, tables)
	last[0].Size, last[0].Number, last[tables-1].Number = biggest, tables, 1
	wantNext(t, of(last...), 2, 3, 1)
}

// TestNextTouch asks which tables of To overlap: those that have a key in common, be it the last or the first one.
func TestNextTouch(t *testing.T) {
	for at, most := range map[int]int64{1: limit1, 2: limit2} {
		leaves := line(3, at, most+1, "f", "k")
		for _, c := range []struct {
			least, end string
			with       bool
		}{
			{"a", "b", false}, {"a", "e", false}, {"a", "ez", false}, {"a", "f", true}, {"f", "f", true}, {"a", "fa", true}, {"e", "z", true}, {"g", "h", true},
			{"f", "k", true}, {"j", "k", true}, {"k", "k", true}, {"k", "z", true}, {"k\x00", "z", false}, {"l", "m", false}, {"F", "K", false}, {"f\x00", "f\x00", true},
		} {
			want := []int64{3}
			if c.with {
				want = append(want, 8)
			}
			wantNext(t, of(leaves, line(8, at+1, 5, c.least, c.end)), at, at+1, want...)
		}
		var next []api.Table
		var all []int64
		for i, key := range []string{"f", "g", "h", "i", "j", "k"} {
			next = append(next, line(int64(20-i), at+1, 5, key, key))
			all = append(all, int64(20-i))
		}
		wantNext(t, join([]api.Table{leaves}, next), at, at+1, append([]int64{3}, all...)...)
		wantNext(t, join([]api.Table{line(3, at, most+1, "g", "iz")}, next), at, at+1, 3, 19, 18, 17)
		wantNext(t, join([]api.Table{line(3, at, most+1, "ka", "z")}, next), at, at+1, 3)
	}
	long := strings.Repeat("\xff", 512)
	wantNext(t, of(line(3, 1, limit1+1, "\x00", long), line(2, 2, 1, long, long)), 1, 2, 3, 2)
	wantNext(t, of(line(3, 1, limit1+1, "\x00", long[1:]), line(2, 2, 1, long, long)), 1, 2, 3)
}

// TestNextSeveral asks that of several full levels the least one's job is told.
func TestNextSeveral(t *testing.T) {
	one := []api.Table{line(5, 1, limit1, "a", "c"), line(6, 1, 5, "h", "i")}
	two := []api.Table{line(3, 2, limit2, "a", "b"), line(1, 2, 5, "h", "z")}
	three := []api.Table{line(2, 3, biggest, "a", "m"), line(4, 3, biggest, "n", "z")}
	wantNext(t, join(full0(), one, two, three), 0, 1, 99, 97, 92, 91, 6)
	wantNext(t, join(full0(), two, three), 0, 1, 99, 97, 92, 91)
	wantNext(t, join(full0(), one, three), 0, 1, 99, 97, 92, 91, 6)
	wantNext(t, join(full0()[1:], one, two, three), 1, 2, 5, 3)
	wantNext(t, join(one, two, three), 1, 2, 5, 3)
	wantNext(t, join(full0()[1:], one[1:], two, three), 2, 3, 1, 2, 4)
	wantNext(t, join(two, three), 2, 3, 1, 2, 4)
	wantNoNext(t, join(full0()[1:], one[1:], two[1:], three))
}

// TestNextEnds asks for P17.5 step by step: jobs carried out come to an end.
func TestNextEnds(t *testing.T) {
	v := join(row(150, 0, 40), row(100, 1, 40), row(50, 2, 40), row(1, 3, 40))
	for i := range v.Tables {
		v.Tables[i].Size = 900
	}
	for step := 0; ; step++ {
		job, ok := pick.Next(v)
		if !ok {
			break
		}
		if step > tables {
			t.Fatalf("no end of jobs: %s", show(v))
		}
		wantFollows(t, v, job)
		v = moved(v, job)
	}
	wantFullOnly(t, v)
}

// moved carries a job out, as if all that goes down had been taken into the tables of To, or had become one of its own.
func moved(v api.Version, job api.Job) api.Version {
	var made api.Table
	after := api.Version{Log: v.Log, Next: v.Next + 1, Seq: v.Seq}
	for _, l := range v.Tables {
		switch {
		case !slices.Contains(job.In, l.Number):
			after.Tables = append(after.Tables, l)
		case made.Size == 0:
			made = line(v.Next, job.To, l.Size, string(l.Least), string(l.Most))
		default:
			made.Size += l.Size
			made.Least = []byte(min(string(made.Least), string(l.Least)))
			made.Most = []byte(max(string(made.Most), string(l.Most)))
		}
	}
	after.Tables = append(after.Tables, made)
	slices.SortFunc(after.Tables, func(a, b api.Table) int {
		switch {
		case a.Level != b.Level:
			return a.Level - b.Level
		case a.Level == 0:
			return int(b.Number - a.Number)
		}
		return strings.Compare(string(a.Least), string(b.Least))
	})
	return after
}

// TestAll asks for P17.3.
func TestAll(t *testing.T) {
	wantNoJob(t, "All", pick.All, api.Version{})
	wantNoJob(t, "All", pick.All, of())
	for at := range 4 {
		wantAll(t, of(line(7, at, 1, "a", "b")), 7)
	}
	wantAll(t, join(full0()[:2], under1(), []api.Table{line(70, 2, 5, "a", "z"), line(71, 3, 5, "a", "b"), line(1, 3, 5, "c", "d")}), 99, 97, 5, 4, 9, 8, 2, 3, 70, 71, 1)
	wantAll(t, of(row(1, 3, tables)...), upTo(tables)...)
	down := upTo(tables)
	slices.Reverse(down)
	wantAll(t, of(row(1, 0, tables)...), down...)
	whole := row(1, 1, tables)
	for i := range whole {
		whole[i].Size = biggest
	}
	wantAll(t, of(whole...), upTo(tables)...)
}

// TestMayNot asks both calls for each way in which a version may not be.
func TestMayNot(t *testing.T) {
	whole := func() api.Version {
		return of(line(9, 0, 5, "b", "f"), line(8, 0, 5, "a", "z"), line(7, 1, 5, "a", "b"), line(5, 1, 5, "c", "d"), line(6, 2, limit2, "a", "c"), line(4, 2, 5, "e", "g"), line(3, 3, 5, "a", "z"))
	}
	with := func(change func(v *api.Version)) api.Version {
		v := whole()
		change(&v)
		return v
	}
	wantMay(t, "as it is", whole(), true)
	const mark = 1 << 62
	wantMay(t, "greatest marks", with(func(v *api.Version) { v.Log, v.Next, v.Seq = mark, mark, mark }), true)
	wantMay(t, "least marks", with(func(v *api.Version) { v.Log, v.Next, v.Seq = 0, 10, 0 }), true)
	wrong := map[string]func(v *api.Version){
		"Log below":          func(v *api.Version) { v.Log = -1 },
		"Next below":         func(v *api.Version) { v.Next = -1 },
		"Next 0":             func(v *api.Version) { v.Next = 0 },
		"Seq below":          func(v *api.Version) { v.Seq = -1 },
		"Log above":          func(v *api.Version) { v.Log = mark + 1 },
		"Next above":         func(v *api.Version) { v.Next = mark + 1 },
		"Seq above":          func(v *api.Version) { v.Seq = greater },
		"one not below Next": func(v *api.Version) { v.Next = 9 },
		"another one":        func(v *api.Version) { v.Tables[0].Number, v.Tables[6].Number = 10, 1000 },
		"a number twice":     func(v *api.Version) { v.Tables[1].Number = 9 },
		"across levels":      func(v *api.Version) { v.Tables[6].Number = 7 },
		"level 0 rises":      func(v *api.Version) { v.Tables[0].Number, v.Tables[1].Number = 8, 9 },
		"levels fall":        func(v *api.Version) { v.Tables[3], v.Tables[4] = v.Tables[4], v.Tables[3] },
		"keys fall":          func(v *api.Version) { v.Tables[2], v.Tables[3] = v.Tables[3], v.Tables[2] },
		"a key in common":    func(v *api.Version) { v.Tables[3].Least = []byte("b") },
		"at level 2":         func(v *api.Version) { v.Tables[5].Least = []byte("c") },
		"within another":     func(v *api.Version) { v.Tables[4].Most = []byte("z") },
		"level below":        func(v *api.Version) { v.Tables[0].Level = -1 },
		"level above":        func(v *api.Version) { v.Tables[6].Level = 4 },
		"no size":            func(v *api.Version) { v.Tables[6].Size = 0 },
		"size below":         func(v *api.Version) { v.Tables[0].Size = -1 },
		"size above":         func(v *api.Version) { v.Tables[4].Size = biggest + 1 },
		"greatest size":      func(v *api.Version) { v.Tables[4].Size = greater },
		"number 0":           func(v *api.Version) { v.Tables[6].Number = 0 },
		"number below":       func(v *api.Version) { v.Tables[6].Number = -3 },
		"number above":       func(v *api.Version) { v.Tables[0].Number, v.Next = 1<<40+1, mark },
		"no least key":       func(v *api.Version) { v.Tables[2].Least = nil },
		"no greatest key":    func(v *api.Version) { v.Tables[6].Most = []byte{} },
		"least behind most":  func(v *api.Version) { v.Tables[1].Least = []byte("zz") },
		"a key too long":     func(v *api.Version) { v.Tables[6].Most = []byte(strings.Repeat("z", 513)) },
		"too many tables":    func(v *api.Version) { v.Tables = append(v.Tables[:6], row(100, 3, 195)...) },
	}
	for what, change := range wrong {
		wantMay(t, what, with(change), false)
	}
	wantMay(t, "as many as may be", with(func(v *api.Version) { v.Tables = append(v.Tables[:6], row(100, 3, 194)...) }), true)
	wantMay(t, "greatest number", with(func(v *api.Version) { v.Tables[0].Number, v.Next = 1<<40, mark }), true)
	// A fault at any place counts, also where the job would not look.
	for i := range whole().Tables {
		wantMay(t, fmt.Sprint("no size at ", i), with(func(v *api.Version) {
			v.Tables[4].Size, v.Tables[5].Size = biggest, biggest
			v.Tables[i].Size = 0
		}), false)
	}
}
