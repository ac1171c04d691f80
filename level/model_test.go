package level_test

import (
	"fmt"
	"math"
	"math/rand"
	"slices"
	"testing"

	"halyard/api"
	"halyard/level"
)

// What follows are the words of the chapter (and of 14, for lines and edits), to hold the package against.

func lineMayBe(l api.Table) bool {
	within := func(n, least, most int64) bool { return n >= least && n <= most }
	return within(l.Number, 1, number) && within(int64(l.Level), 0, 3) && within(l.Size, 1, biggest) &&
		within(int64(len(l.Least)), 1, longest) && within(int64(len(l.Most)), 1, longest) && string(l.Least) <= string(l.Most)
}

func marksMayBe(marks ...int64) bool {
	return slices.Min(marks) >= 0 && slices.Max(marks) <= mark
}

func linesMayBe(lines []api.Table) bool {
	seen := map[int64]int{}
	for _, l := range lines {
		seen[l.Number]++
		if !lineMayBe(l) || seen[l.Number] > 1 {
			return false
		}
	}
	return len(lines) <= tables
}

func editMayBe(e api.Edit) bool {
	seen := map[int64]int{}
	for _, n := range e.Remove {
		seen[n]++
		if n < 1 || n > number || seen[n] > 1 {
			return false
		}
	}
	return marksMayBe(e.Log, e.Next, e.Seq) && linesMayBe(e.Add) && len(e.Remove) <= tables
}

// goesAhead is the order of versions, pair by pair.
func goesAhead(a, b api.Table) bool {
	if a.Level != b.Level {
		return a.Level < b.Level
	}
	if a.Level == 0 {
		return a.Number > b.Number
	}
	return string(a.Least) < string(b.Least)
}

func versionMayBe(v api.Version) bool {
	for i, a := range v.Tables {
		for _, b := range v.Tables[i+1:] {
			if !goesAhead(a, b) || a.Level == b.Level && a.Level > 0 && string(a.Most) >= string(b.Least) {
				return false
			}
		}
		if a.Number >= v.Next {
			return false
		}
	}
	return marksMayBe(v.Log, v.Next, v.Seq) && linesMayBe(v.Tables)
}

// inPlace takes tables one by one to the place where each belongs.
func inPlace(lines []api.Table) []api.Table {
	var row []api.Table
	for _, l := range lines {
		at := len(row)
		for at > 0 && goesAhead(l, row[at-1]) {
			at--
		}
		row = slices.Insert(row, at, l)
	}
	return row
}

func applied(v api.Version, e api.Edit) (api.Version, api.Errno) {
	if !versionMayBe(v) || !editMayBe(e) {
		return api.Version{}, api.ErrArg
	}
	row := slices.Clone(v.Tables)
	place := func(n int64) int { return slices.IndexFunc(row, func(l api.Table) bool { return l.Number == n }) }
	for _, n := range e.Remove {
		at := place(n)
		if at < 0 {
			return api.Version{}, api.ErrNone
		}
		row = slices.Delete(row, at, at+1)
	}
	for _, l := range e.Add {
		if place(l.Number) >= 0 {
			return api.Version{}, api.ErrExists
		}
	}
	if e.Log < v.Log || e.Next < v.Next || e.Seq < v.Seq {
		return api.Version{}, api.ErrOrder
	}
	row = append(row, e.Add...)
	if len(row) > tables {
		return api.Version{}, api.ErrMany
	}
	after := api.Version{Log: e.Log, Next: e.Next, Seq: e.Seq, Tables: inPlace(row)}
	if !versionMayBe(after) {
		return api.Version{}, api.ErrArg
	}
	return after, api.OK
}

func difference(a, b api.Version) (api.Edit, api.Errno) {
	if !versionMayBe(a) || !versionMayBe(b) || b.Log < a.Log || b.Next < a.Next || b.Seq < a.Seq {
		return api.Edit{}, api.ErrArg
	}
	e := api.Edit{Log: b.Log, Next: b.Next, Seq: b.Seq}
	lines := func(v api.Version) map[string]int64 {
		all := map[string]int64{}
		for _, l := range v.Tables {
			all[fmt.Sprint(l)] = l.Number
		}
		return all
	}
	inA, inB := lines(a), lines(b)
	for _, l := range b.Tables {
		if inA[fmt.Sprint(l)] == 0 {
			e.Add = append(e.Add, l)
		}
	}
	for text, n := range inA {
		if inB[text] == 0 {
			e.Remove = append(e.Remove, n)
		}
	}
	slices.Sort(e.Remove)
	return e, api.OK
}

// wantAsTheWords holds all calls on a version against the words.
func wantAsTheWords(t *testing.T, v api.Version, keys []string) {
	t.Helper()
	if got, want := level.May(v), versionMayBe(v); got != want {
		t.Fatalf("May(%s) = %v", showVersion(v), got)
	}
	var all []int64
	row := inPlace(v.Tables)
	for at := range 4 {
		var numbers []int64
		var sum int64
		for _, l := range row {
			if l.Level == at {
				numbers = append(numbers, l.Number)
				sum += l.Size
			}
		}
		all = append(all, numbers...)
		if got := numbersOf(level.At(v, at)); !slices.Equal(got, numbers) || level.Size(v, at) != sum {
			t.Fatalf("At(%s; %d) = %v, Size %d", showVersion(v), at, got, level.Size(v, at))
		}
		for _, least := range keys {
			for _, most := range keys {
				var numbers []int64
				for _, l := range row {
					if l.Level == at && !(string(l.Most) < least) && !(string(l.Least) > most) {
						numbers = append(numbers, l.Number)
					}
				}
				if got := numbersOf(level.Overlap(v, at, []byte(least), []byte(most))); !slices.Equal(got, numbers) {
					t.Fatalf("Overlap(%s; %d, %q, %q) = %v, not %v", showVersion(v), at, least, most, got, numbers)
				}
			}
		}
	}
	for _, key := range keys {
		var numbers []int64
		times := map[int]int{}
		for _, l := range row {
			if string(l.Least) <= key && key <= string(l.Most) {
				numbers = append(numbers, l.Number)
				times[l.Level]++
			}
		}
		if got := numbersOf(level.Find(v, []byte(key))); !slices.Equal(got, numbers) {
			t.Fatalf("Find(%s; %q) = %v, not %v", showVersion(v), key, got, numbers)
		}
		if versionMayBe(v) && (times[1] > 1 || times[2] > 1 || times[3] > 1) {
			t.Fatalf("Find(%s; %q) has %v of the levels", showVersion(v), key, times)
		}
	}
	if len(all) != len(v.Tables) {
		t.Fatalf("the levels of %s have %v", showVersion(v), all)
	}
}

func wantApplyAsTheWords(t *testing.T, v api.Version, e api.Edit) api.Errno {
	t.Helper()
	want, wantErrno := applied(v, e)
	got, errno := level.Apply(v, e)
	if errno != wantErrno || !same(got, want) || !level.May(got) {
		t.Fatalf("Apply(%s; %s) = %s, %d, not %s, %d", showVersion(v), showEdit(e), showVersion(got), errno, showVersion(want), wantErrno)
	}
	return errno
}

// wantDiffAsTheWords asks for P15.4, too.
func wantDiffAsTheWords(t *testing.T, a, b api.Version) api.Errno {
	t.Helper()
	want, wantErrno := difference(a, b)
	got, errno := level.Diff(a, b)
	if errno != wantErrno || !sameEdit(got, want) {
		t.Fatalf("Diff(%s; %s) = %s, %d, not %s, %d", showVersion(a), showVersion(b), showEdit(got), errno, showEdit(want), wantErrno)
	}
	if errno != api.OK {
		return errno
	}
	if back, errno := level.Apply(a, got); errno != api.OK || !same(back, b) {
		t.Fatalf("Apply of Diff(%s; %s) = %s, %d", showVersion(a), showVersion(b), showVersion(back), errno)
	}
	return errno
}

// shortVersions are all rows of up to three of some lines.
func shortVersions() []api.Version {
	var lines []api.Table
	for n := range int64(3) {
		for at := range 3 {
			for _, keys := range []string{"aa", "ab", "bb", "bc"} {
				lines = append(lines, line(n+1, at, keys[:1], keys[1:]))
			}
		}
	}
	rows := [][]api.Table{nil}
	for from, end := 0, 0; len(rows[len(rows)-1]) < 3; from = end {
		end = len(rows)
		for _, row := range rows[from:end] {
			for _, l := range lines {
				rows = append(rows, append(slices.Clone(row), l))
			}
		}
	}
	var all []api.Version
	for _, row := range rows {
		all = append(all, api.Version{Log: 1, Next: 4, Seq: 1, Tables: row})
	}
	return all
}

func TestOfAllShortVersions(t *testing.T) {
	var good []api.Version
	keys := []string{"a", "b", "c", "bb"}
	for i, v := range shortVersions() {
		if may := level.May(v); may != versionMayBe(v) {
			t.Fatalf("May(%s) = %v", showVersion(v), may)
		} else if may {
			good = append(good, v)
		}
		if i%16 == 0 || i < 1500 {
			wantAsTheWords(t, v, keys)
		}
	}
	if len(good) < 500 {
		t.Fatalf("only %d may be", len(good))
	}
	for i, a := range good {
		for j := i % 31; j < len(good); j += 31 {
			wantDiffAsTheWords(t, a, good[j])
		}
	}
}

// anyKey is a short key of few bytes, so that keys meet.
func anyKey(from *rand.Rand) string {
	key := make([]byte, 1+from.Intn(3))
	for i := range key {
		key[i] = "\x00amz\xff"[from.Intn(5)]
	}
	return string(key)
}

func anyLine(from *rand.Rand) api.Table {
	keys := []string{anyKey(from), anyKey(from)}
	slices.Sort(keys)
	return api.Table{Number: 1 + from.Int63n(30), Level: from.Intn(4), Size: 1 + from.Int63n(biggest), Least: []byte(keys[0]), Most: []byte(keys[1])}
}

// anyVersion is one that may be: of some lines those that fit.
func anyVersion(from *rand.Rand) api.Version {
	v := api.Version{Log: from.Int63n(4), Next: 31 + from.Int63n(3), Seq: from.Int63n(4)}
	for range from.Intn(14) {
		row := inPlace(append(slices.Clone(v.Tables), anyLine(from)))
		if versionMayBe(api.Version{Next: 31, Tables: row}) {
			v.Tables = row
		}
	}
	return v
}

// anyEdit mostly takes away what is there, and adds what may fit.
func anyEdit(from *rand.Rand, v api.Version) api.Edit {
	e := api.Edit{Log: v.Log + from.Int63n(2), Next: v.Next + from.Int63n(2), Seq: v.Seq + from.Int63n(2)}
	for _, l := range v.Tables {
		if from.Intn(3) == 0 {
			e.Remove = append(e.Remove, l.Number)
		}
	}
	from.Shuffle(len(e.Remove), func(i, j int) { e.Remove[i], e.Remove[j] = e.Remove[j], e.Remove[i] })
	for range from.Intn(4) {
		e.Add = append(e.Add, anyLine(from))
	}
	return e
}

// wrong makes one thing of a row of lines another one, most times one that may not be.
func wrong(from *rand.Rand, lines []api.Table) {
	if len(lines) == 0 {
		return
	}
	l := &lines[from.Intn(len(lines))]
	odd := []int64{-1, 0, 1, 30, 31, 32, 33, 34, number, number + 1, math.MaxInt64, math.MinInt64}
	switch from.Intn(6) {
	case 0:
		l.Number = odd[from.Intn(len(odd))]
	case 1:
		l.Number = lines[from.Intn(len(lines))].Number
	case 2:
		l.Least, l.Most = l.Most, l.Least
	case 3:
		l.Most = make([]byte, []int{0, 1, 512, 513}[from.Intn(4)])
	case 4:
		other := &lines[from.Intn(len(lines))]
		*l, *other = *other, *l
	case 5:
		l.Least = lines[from.Intn(len(lines))].Most
	}
}

func wrongMark(from *rand.Rand, log, next, seq *int64) {
	odd := []int64{-1, 0, 1, 2, 30, 31, mark, mark + 1, math.MaxInt64, math.MinInt64}
	*[]*int64{log, next, seq}[from.Intn(3)] = odd[from.Intn(len(odd))]
}

// Any versions and any edits at all: an error, or a version that may be.
func TestApplyOfAnyVersionsAndEdits(t *testing.T) {
	from := rand.New(rand.NewSource(15))
	times := map[api.Errno]int{}
	for range 30000 {
		v := anyVersion(from)
		e := anyEdit(from, v)
		switch from.Intn(12) {
		case 0:
			wrong(from, v.Tables)
		case 1:
			wrong(from, e.Add)
		case 2:
			wrongMark(from, &v.Log, &v.Next, &v.Seq)
		case 3:
			wrongMark(from, &e.Log, &e.Next, &e.Seq)
		case 4:
			e.Remove = append(e.Remove, from.Int63n(33))
		}
		times[wantApplyAsTheWords(t, v, e)]++
	}
	for _, errno := range []api.Errno{api.OK, api.ErrArg, api.ErrNone, api.ErrExists, api.ErrOrder} {
		if times[errno] < 300 {
			t.Errorf("%d came about %d times: it is hardly looked at", errno, times[errno])
		}
	}
}

func TestDiffOfAnyVersions(t *testing.T) {
	from := rand.New(rand.NewSource(51))
	times := map[api.Errno]int{}
	for range 10000 {
		a, b := anyVersion(from), anyVersion(from)
		if from.Intn(2) == 0 {
			b, _ = level.Apply(a, anyEdit(from, a))
		}
		switch from.Intn(12) {
		case 0:
			wrong(from, a.Tables)
		case 1:
			wrong(from, b.Tables)
		case 2:
			wrongMark(from, &a.Log, &a.Next, &a.Seq)
		case 3:
			wrongMark(from, &b.Log, &b.Next, &b.Seq)
		}
		times[wantDiffAsTheWords(t, a, b)]++
	}
	if times[api.OK] < 1000 || times[api.ErrArg] < 1000 {
		t.Errorf("one side is hardly looked at: %v", times)
	}
}

func TestLooksAtAnyVersions(t *testing.T) {
	from := rand.New(rand.NewSource(52))
	for range 1500 {
		v := anyVersion(from)
		keys := []string{"", anyKey(from), anyKey(from), anyKey(from)}
		for _, l := range v.Tables {
			keys = append(keys, string(l.Least), string(l.Most), string(l.Most)+"\x00")
		}
		wantAsTheWords(t, v, keys[:min(len(keys), 12)])
		from.Shuffle(len(v.Tables), func(i, j int) { v.Tables[i], v.Tables[j] = v.Tables[j], v.Tables[i] })
		wantAsTheWords(t, v, keys[:min(len(keys), 4)])
	}
}

// A long life of one version, edit by edit, up to as many tables as may be.
func TestApplyAgainAndAgain(t *testing.T) {
	from := rand.New(rand.NewSource(53))
	v := api.Version{}
	most := 0
	for step := range 400 {
		e := api.Edit{Log: v.Log, Next: v.Next + 3, Seq: v.Seq + 1}
		for i := range int64(2) {
			at := from.Intn(4)
			key := fmt.Sprintf("k%05d", 10*v.Next+i)
			e.Add = append(e.Add, api.Table{Number: v.Next + i + 1, Level: at, Size: 5, Least: []byte(key), Most: []byte(key + "m")})
		}
		if len(v.Tables) > 0 && (step%5 == 0 || len(v.Tables) > tables-2) {
			e.Remove = append(e.Remove, v.Tables[from.Intn(len(v.Tables))].Number)
		}
		errno := wantApplyAsTheWords(t, v, e)
		if errno == api.ErrMany {
			e.Add = e.Add[:1]
			errno = wantApplyAsTheWords(t, v, e)
		}
		after, _ := level.Apply(v, e)
		if errno != api.OK || wantDiffAsTheWords(t, v, after) != api.OK {
			t.Fatalf("step %d: %d", step, errno)
		}
		v = after
		most = max(most, len(v.Tables))
	}
	if most != tables {
		t.Errorf("there were never more than %d tables", most)
	}
}

// linesOf reads lines from bytes, six each; small bytes are lines that may be.
func linesOf(b []byte) []api.Table {
	var lines []api.Table
	for ; len(b) >= 6; b = b[6:] {
		l := api.Table{Number: int64(int8(b[0])), Level: int(int8(b[1])), Size: int64(int8(b[2])), Least: b[3:4], Most: b[4:5]}
		if b[5]&1 == 1 {
			l.Most = b[3:5]
		}
		if b[5]&2 == 2 {
			l.Size <<= 56
		}
		lines = append(lines, l)
	}
	return lines
}

// Of anything at all each call ends with an error or with what may be, by the words.
func FuzzAll(f *testing.F) {
	f.Add([]byte("\x05\x01\x01ab\x00\x06\x01\x01cd\x01"), []byte("\x07\x00\x01ab\x00"), []byte("\x05"), int64(1), int64(9))
	f.Add([]byte("\x05\x00\x01ab\x00\x04\x00\x01cd\x01\x03\x03\x7fad\x02"), []byte("\x05\x00\x01ab\x00"), []byte("\x05\x03"), int64(0), int64(6))
	f.Add([]byte(nil), []byte(nil), []byte(nil), int64(-1), int64(mark))
	f.Fuzz(func(t *testing.T, tables, add, remove []byte, log, next int64) {
		v := api.Version{Log: log, Next: next, Seq: 3, Tables: linesOf(tables)}
		e := api.Edit{Log: log, Next: next, Seq: 3, Add: linesOf(add)}
		for _, n := range remove {
			e.Remove = append(e.Remove, int64(int8(n)))
		}
		wantApplyAsTheWords(t, v, e)
		wantDiffAsTheWords(t, v, api.Version{Log: log, Next: next, Seq: 3, Tables: e.Add})
		for at := -2; at < 6; at++ {
			if size := level.Size(v, at); size < 0 || size > mark {
				t.Fatalf("Size %d", size)
			}
			for _, l := range level.Overlap(v, at, add, remove) {
				if l.Level != at || string(l.Most) < string(add) || string(l.Least) > string(remove) {
					t.Fatalf("Overlap has %s", show([]api.Table{l}))
				}
			}
		}
		if lines := level.Find(v, add); !slices.IsSortedFunc(lines, func(a, b api.Table) int { return a.Level - b.Level }) {
			t.Fatalf("Find = %s", show(lines))
		}
	})
}
