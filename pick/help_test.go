package pick_test

import (
	"bytes"
	"fmt"
	"slices"
	"strings"
	"testing"

	"halyard/api"
	"halyard/level"
	"halyard/pick"
)

const (
	biggest = 1 << 22   // the greatest Size of a table
	tables  = 200       // the most tables of a version
	limit1  = 4 * 1024  // the limit of level 1
	limit2  = 16 * 1024 // the limit of level 2
	greater = 1<<63 - 1 // the greatest number
	lowest  = -1 << 63  // the least number
)

func line(number int64, level int, size int64, least, most string) api.Table {
	return api.Table{Number: number, Level: level, Size: size, Least: []byte(least), Most: []byte(most)}
}

// of is a version of those tables.
func of(lines ...api.Table) api.Version {
	return api.Version{Log: 10, Next: 1000, Seq: 30, Tables: lines}
}

// row are n small tables of a level that may stand together, with numbers from that one on.
func row(from int64, level, n int) []api.Table {
	var lines []api.Table
	for i := range n {
		key := fmt.Sprintf("k%04d", i)
		lines = append(lines, line(from+int64(i), level, 1, key, key+"z"))
	}
	if level == 0 {
		slices.Reverse(lines)
	}
	return lines
}

func join(rows ...[]api.Table) api.Version { return of(slices.Concat(rows...)...) }

// withRoom is a copy of s with other bytes behind its length, and all of the copy.
func withRoom(s []byte) ([]byte, []byte) {
	whole := append(bytes.Clone(s), bytes.Repeat([]byte{0xee}, 40)...)
	return whole[:len(s)], whole
}

// guarded is a copy of v with room behind each list's length, and a look whether all of it stayed as it was.
func guarded(v api.Version) (api.Version, func(t *testing.T)) {
	lines := make([]api.Table, len(v.Tables), len(v.Tables)+3)
	var wholes, before [][]byte
	for i, l := range v.Tables {
		var least, most []byte
		l.Least, least = withRoom(l.Least)
		l.Most, most = withRoom(l.Most)
		lines[i] = l
		wholes = append(wholes, least, most)
		before = append(before, bytes.Clone(least), bytes.Clone(most))
	}
	behind := lines[len(lines):cap(lines)]
	for i := range behind {
		behind[i] = line(1, 0, limit2, "behind", "behind")
	}
	image := fmt.Sprint(lines[:cap(lines)])
	shown := show(v)
	v.Tables = lines
	return v, func(t *testing.T) {
		t.Helper()
		if fmt.Sprint(lines[:cap(lines)]) != image || !slices.EqualFunc(wholes, before, bytes.Equal) {
			t.Errorf("the argument %s was changed", shown)
		}
	}
}

func show(v api.Version) string {
	var s strings.Builder
	fmt.Fprintf(&s, "Log %d, Next %d, Seq %d, %d tables: ", v.Log, v.Next, v.Seq, len(v.Tables))
	for _, l := range v.Tables {
		fmt.Fprintf(&s, "%d:%d of %d %.10q-%.10q ", l.Level, l.Number, l.Size, l.Least, l.Most)
	}
	return s.String()[:min(s.Len(), 600)]
}

func same(a, b api.Job) bool {
	return a.From == b.From && a.To == b.To && slices.Equal(a.In, b.In)
}

func wantFull(t *testing.T, v api.Version, at int, want bool) {
	t.Helper()
	given, unchanged := guarded(v)
	if got := pick.Full(given, at); got != want {
		t.Errorf("Full(%s, %d) = %v", show(v), at, got)
	}
	unchanged(t)
}

// wantFullOnly asks that only those levels are full, and all others of a wide range not.
func wantFullOnly(t *testing.T, v api.Version, levels ...int) {
	t.Helper()
	for _, at := range []int{lowest, -4, -3, -2, -1, 0, 1, 2, 3, 4, 5, 256, 1 << 32, greater} {
		wantFull(t, v, at, slices.Contains(levels, at))
	}
}

// wantJob asks a call for a job; what it told is then written over, and it is asked again.
func wantJob(t *testing.T, name string, call func(api.Version) (api.Job, bool), v api.Version, want api.Job) {
	t.Helper()
	given, unchanged := guarded(v)
	for range 2 {
		got, ok := call(given)
		if !ok || !same(got, want) {
			t.Errorf("%s(%s) = %v, %v, not %v", name, show(v), got, ok, want)
		}
		if ok {
			wantFollows(t, v, got)
		}
		clear(got.In[:cap(got.In)])
	}
	unchanged(t)
}

func wantNoJob(t *testing.T, name string, call func(api.Version) (api.Job, bool), v api.Version) {
	t.Helper()
	given, unchanged := guarded(v)
	if got, ok := call(given); ok || !same(got, api.Job{}) {
		t.Errorf("%s(%s) = %v, %v, not a false alone", name, show(v), got, ok)
	}
	unchanged(t)
}

func wantNext(t *testing.T, v api.Version, from, to int, in ...int64) {
	t.Helper()
	wantJob(t, "Next", pick.Next, v, api.Job{From: from, To: to, In: in})
}

func wantNoNext(t *testing.T, v api.Version) {
	t.Helper()
	wantNoJob(t, "Next", pick.Next, v)
}

func wantAll(t *testing.T, v api.Version, in ...int64) {
	t.Helper()
	wantJob(t, "All", pick.All, v, api.Job{From: 0, To: 3, In: in})
}

// wantMay asks both calls whether a version whose level 2 is full may be.
func wantMay(t *testing.T, what string, v api.Version, may bool) {
	t.Helper()
	if level.May(v) != may || !pick.Full(v, 2) {
		t.Fatalf("the test is wrong: %s: %s", what, show(v))
	}
	if _, ok := pick.Next(v); ok != may {
		t.Errorf("%s: Next(%s) = %v", what, show(v), ok)
	}
	if _, ok := pick.All(v); ok != may {
		t.Errorf("%s: All(%s) = %v", what, show(v), ok)
	}
	if !may {
		wantNoNext(t, v)
		wantNoJob(t, "All", pick.All, v)
	}
}

// wantFollows asks for P17.5.
func wantFollows(t *testing.T, v api.Version, job api.Job) {
	t.Helper()
	var in, rest []api.Table
	for _, l := range v.Tables {
		if slices.Contains(job.In, l.Number) {
			in = append(in, l)
		} else {
			rest = append(rest, l)
		}
	}
	if len(in) != len(job.In) {
		t.Errorf("the job %v of %s has numbers that are no table's", job, show(v))
		return
	}
	for _, l := range in {
		if l.Level < job.From || l.Level > job.To {
			t.Errorf("the job %v of %s has a table of level %d", job, show(v), l.Level)
		}
		for _, other := range rest {
			if other.Level == job.To && string(l.Most) >= string(other.Least) && string(l.Least) <= string(other.Most) {
				t.Errorf("the job %v of %s leaves table %d, which meets table %d", job, show(v), other.Number, l.Number)
			}
		}
	}
	wantDone(t, v, job, in, rest)
}

// wantDone carries a job out, as one table of all that it takes.
func wantDone(t *testing.T, v api.Version, job api.Job, in, rest []api.Table) {
	t.Helper()
	made := line(v.Next, job.To, 1, string(in[0].Least), string(in[0].Most))
	for _, l := range in {
		made.Least = slices.MinFunc([][]byte{made.Least, l.Least}, bytes.Compare)
		made.Most = slices.MaxFunc([][]byte{made.Most, l.Most}, bytes.Compare)
	}
	e := api.Edit{Log: v.Log, Next: v.Next + 1, Seq: v.Seq, Add: []api.Table{made}, Remove: job.In}
	after, errno := level.Apply(v, e)
	if errno != api.OK {
		t.Errorf("the job %v of %s can't be carried out: %d, with %d tables left", job, show(v), errno, len(rest))
		return
	}
	if had := level.Size(v, job.From); had > 0 && level.Size(after, job.From) >= had {
		t.Errorf("behind the job %v of %s its level has %d bytes", job, show(v), level.Size(after, job.From))
	}
}

func wantSplits(t *testing.T, weights []int64, want ...int) {
	t.Helper()
	given := append(slices.Clone(weights), 1024, 0, -1)
	image := slices.Clone(given)
	for range 2 {
		got := pick.Splits(given[:len(weights)])
		if !slices.Equal(got, want) {
			t.Errorf("Splits(%v) = %v, not %v", weights[:min(len(weights), 20)], got[:min(len(got), 20)], want[:min(len(want), 20)])
		}
		clear(got[:cap(got)])
	}
	if !slices.Equal(given, image) {
		t.Errorf("the argument %v was changed", weights)
	}
}
