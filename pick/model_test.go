package pick_test

import (
	"bytes"
	"math/rand"
	"slices"
	"testing"

	"halyard/api"
	"halyard/level"
	"halyard/pick"
)

// What follows are the chapter's own words, to hold the package against.

func fullByWords(v api.Version, at int) bool {
	var count, sum int64
	for _, l := range v.Tables {
		if l.Level == at {
			count++
			sum += l.Size
		}
	}
	return at == 0 && count >= 4 || at == 1 && sum > limit1 || at == 2 && sum > limit2
}

// nextByWords looks at all tables for each that it takes.
func nextByWords(v api.Version) (api.Job, bool) {
	from := slices.IndexFunc([]int{0, 1, 2}, func(at int) bool { return fullByWords(v, at) })
	if from < 0 || !level.May(v) {
		return api.Job{}, false
	}
	var leave []api.Table
	for _, l := range v.Tables {
		least := !slices.ContainsFunc(v.Tables, func(other api.Table) bool { return other.Level == from && other.Number < l.Number })
		if l.Level == from && (from == 0 || least) {
			leave = append(leave, l)
		}
	}
	job := api.Job{From: from, To: from + 1}
	for _, l := range leave {
		job.In = append(job.In, l.Number)
	}
	for _, l := range v.Tables {
		begins := func(other api.Table) bool { return bytes.Compare(other.Least, l.Most) <= 0 }
		ends := func(other api.Table) bool { return bytes.Compare(other.Most, l.Least) >= 0 }
		if l.Level == from+1 && slices.ContainsFunc(leave, begins) && slices.ContainsFunc(leave, ends) {
			job.In = append(job.In, l.Number)
		}
	}
	return job, true
}

func splitsByWords(weights []int64) []int {
	var counts []int
	begin := 0
	for i := range weights {
		sum := int64(0)
		for _, w := range weights[begin : i+1] {
			sum += w
		}
		if weights[i] < 1 {
			return nil
		}
		if sum >= 1024 || i == len(weights)-1 {
			counts = append(counts, i+1-begin)
			begin = i + 1
		}
	}
	return counts
}

// drawn is a version of a row of bytes: some tables of each level, with numbers, sizes and keys by the bytes.
func drawn(b []byte) api.Version {
	next := func() int {
		if len(b) == 0 {
			return 0
		}
		x := int(b[0])
		b = b[1:]
		return x
	}
	numbers := rand.New(rand.NewSource(int64(next()))).Perm(64)
	var lines []api.Table
	for at := range 4 {
		key := 0
		begin := len(lines)
		for range next() % 8 {
			key += 1 + next()%3
			least := key
			key += next() % 3
			l := line(int64(1+numbers[len(lines)]), at, int64(1+next()*(1+next()%(10+30*at))), string(rune('0'+least)), string(rune('0'+key)))
			if at == 0 { // these overlap
				key = next() % 10
			}
			lines = append(lines, l)
		}
		if at == 0 {
			slices.SortFunc(lines[begin:], func(a, b api.Table) int { return int(b.Number - a.Number) })
		}
	}
	return of(lines...)
}

func check(t *testing.T, v api.Version) {
	t.Helper()
	for at := -1; at < 5; at++ {
		wantFull(t, v, at, fullByWords(v, at))
	}
	if job, ok := nextByWords(v); ok {
		wantJob(t, "Next", pick.Next, v, job)
	} else {
		wantNoNext(t, v)
	}
	if !level.May(v) || len(v.Tables) == 0 {
		wantNoJob(t, "All", pick.All, v)
		return
	}
	var all []int64
	for _, l := range v.Tables {
		all = append(all, l.Number)
	}
	wantAll(t, v, all...)
}

// TestModel holds versions that are drawn against the words.
func TestModel(t *testing.T) {
	r := rand.New(rand.NewSource(17))
	var jobs, may [4]int
	for range 6000 {
		b := make([]byte, 10+r.Intn(90))
		r.Read(b)
		v := drawn(b)
		if r.Intn(8) == 0 && len(v.Tables) > 1 {
			i, j := r.Intn(len(v.Tables)), r.Intn(len(v.Tables))
			v.Tables[i], v.Tables[j] = v.Tables[j], v.Tables[i]
		}
		check(t, v)
		if job, ok := pick.Next(v); ok {
			jobs[job.From]++
		}
		if level.May(v) {
			may[0]++
		}
	}
	if may[0] < 3000 || jobs[0] < 100 || jobs[1] < 100 || jobs[2] < 100 {
		t.Errorf("the versions drawn are too much alike: %v may be, jobs %v", may, jobs)
	}
}

// TestSplitsModel holds all short rows of a few weights, and drawn ones, against the words.
func TestSplitsModel(t *testing.T) {
	rows := [][]int64{nil}
	for len(rows[0]) <= 5 {
		wantSplits(t, rows[0], splitsByWords(rows[0])...)
		for _, w := range []int64{0, 1, 500, 524, 1023, 1024, 1025} {
			rows = append(rows, append(slices.Clone(rows[0]), w))
		}
		rows = rows[1:]
	}
	r := rand.New(rand.NewSource(4))
	for range 500 {
		weights := make([]int64, r.Intn(60))
		for i := range weights {
			weights[i] = 1 + r.Int63n(int64(1)<<r.Intn(13))
		}
		wantSplits(t, weights, splitsByWords(weights)...)
	}
}

func FuzzNext(f *testing.F) {
	f.Add([]byte("\x03\x04abcdefghijklmnopqrstuvwxyz"))
	f.Add([]byte{9, 4, 1, 1, 200, 39, 2, 1, 200, 39, 1, 1, 200, 39, 2, 2, 200, 39, 7, 1, 1, 200, 39})
	f.Fuzz(func(t *testing.T, b []byte) {
		v := drawn(b)
		check(t, v)
		if job, ok := pick.Next(v); ok {
			v = moved(v, job)
			check(t, v)
		}
		var weights []int64
		for _, x := range b {
			weights = append(weights, int64(x)*9)
		}
		wantSplits(t, weights, splitsByWords(weights)...)
	})
}
