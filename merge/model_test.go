package merge_test

import (
	"fmt"
	"math/rand"
	"strings"
	"testing"

	"halyard/api"
	"halyard/merge"
)

// The chapter's own words, to hold the package against.

// ahead asks whether a comes ahead of b whatever their rows: by key, newer first.
func ahead(a, b api.Entry) bool {
	order := strings.Compare(string(a.Key), string(b.Key))
	return order < 0 || order == 0 && a.Seq > b.Seq
}

// inOrder holds each entry against each one behind it.
func inOrder(l []api.Entry) bool {
	for i, a := range l {
		for _, b := range l[i+1:] {
			if !ahead(a, b) {
				return false
			}
		}
	}
	return true
}

// mergedByWords puts entry after entry, row after row, behind all but those that come behind it.
func mergedByWords(rows [][]api.Entry) []api.Entry {
	var all []api.Entry
	for _, row := range rows {
		for _, e := range row {
			at := len(all)
			for at > 0 && ahead(e, all[at-1]) {
				at--
			}
			all = append(all, api.Entry{})
			copy(all[at+1:], all[at:])
			all[at] = e
		}
	}
	return all
}

func errorByWords(rows [][]api.Entry) api.Errno {
	total := 0
	for _, row := range rows {
		total += len(row)
		if !inOrder(row) {
			return api.ErrOrder
		}
	}
	if len(rows) > 64 || total > 40000 {
		return api.ErrMany
	}
	return api.OK
}

// hasEquals asks whether two neighbours have one key and number.
func hasEquals(l []api.Entry) bool {
	for i := 1; i < len(l); i++ {
		if !ahead(l[i-1], l[i]) {
			return true
		}
	}
	return false
}

// agrees holds Merge, and an iterator with steps, against the words.
func agrees(t *testing.T, rows [][]api.Entry, seeks []string) {
	t.Helper()
	if want := errorByWords(rows); want != api.OK {
		refuses(t, rows, want)
		return
	}
	want := mergedByWords(rows)
	takes(t, rows, want)
	i := over(t, rows)
	if l := drain(t, i); !sameRow(l, want) {
		t.Errorf("Next over %s: %s; want %s", showRows(rows), show(l), show(want))
	}
	for _, key := range seeks {
		seek(t, i, key)
		place := 0
		for place < len(want) && string(want[place].Key) < key {
			place++
		}
		if i.Left() != len(want)-place {
			t.Errorf("Left() = %d behind Seek(%q) over %s; want %d", i.Left(), key, showRows(rows), len(want)-place)
		}
		e, ok := i.Next()
		if ok != (place < len(want)) || ok && !same(e, want[place]) || !ok && !isNothing(e) {
			t.Errorf("Next() = %v, %v behind Seek(%q) over %s", e, ok, key, showRows(rows))
		}
	}
}

// TestShortRows goes through all rows of up to two entries over two keys and two numbers, three at a time.
func TestShortRows(t *testing.T) {
	entries := []api.Entry{of("a", 2, ""), of("a", 1, ""), gone("b", 2), of("b", 1, "")}
	rows := [][]api.Entry{nil}
	for _, a := range entries {
		rows = append(rows, []api.Entry{a})
		for _, b := range entries {
			rows = append(rows, []api.Entry{a, b})
		}
	}
	seeks := []string{"b", "", "a", "c", "aa"}
	for _, a := range rows {
		agrees(t, [][]api.Entry{a}, seeks)
		for _, b := range rows {
			agrees(t, [][]api.Entry{a, b}, seeks)
			if !inOrder(a) || !inOrder(b) {
				continue
			}
			for _, c := range rows {
				agrees(t, [][]api.Entry{a, b, c}, seeks)
			}
		}
	}
}

// someRows are rows over few keys and numbers; most are in order.
func someRows(r *rand.Rand, most int) [][]api.Entry {
	var rows [][]api.Entry
	for i := range r.Intn(most) {
		var row []api.Entry
		for range r.Intn(9) {
			e := of(fmt.Sprint(r.Intn(6)), int64(1+r.Intn(6)), fmt.Sprint(" of ", i))
			at := 0
			for at < len(row) && ahead(row[at], e) {
				at++
			}
			if at < len(row) && !ahead(e, row[at]) {
				continue
			}
			row = append(row[:at:at], append([]api.Entry{e}, row[at:]...)...)
		}
		if len(row) > 1 && r.Intn(60) == 0 {
			row[0], row[1] = row[1], row[0]
		}
		rows = append(rows, row)
	}
	return rows
}

func TestRandomRows(t *testing.T) {
	r := rand.New(rand.NewSource(16))
	for n := range 3000 {
		most := 8
		if n%20 == 0 {
			most = 68
		}
		var seeks []string
		for range 5 {
			seeks = append(seeks, fmt.Sprint(r.Intn(7)))
		}
		agrees(t, someRows(r, most), seeks)
	}
}

// TestTurnedRows merges rows in another order: the same but among entries of one key and number.
func TestTurnedRows(t *testing.T) {
	r := rand.New(rand.NewSource(17))
	for range 2000 {
		rows := someRows(r, 8)
		a, errno := merge.Merge(rows)
		r.Shuffle(len(rows), func(i, j int) { rows[i], rows[j] = rows[j], rows[i] })
		b, again := merge.Merge(rows)
		if errno != again || brief(a) != brief(b) {
			t.Errorf("%s, %d; turned %s, %d", brief(a), errno, brief(b), again)
		}
		if !hasEquals(a) && !sameRow(a, b) {
			t.Errorf("%s; turned %s", show(a), show(b))
		}
	}
}

// FuzzMerge makes rows of bytes: three an entry, a byte 255 ends a row.
func FuzzMerge(f *testing.F) {
	f.Add([]byte{1, 5, 0, 3, 1, 0, 255, 1, 7, 1, 2, 2, 0}, "b")
	f.Add([]byte{255, 255, 0, 0, 0}, "")
	f.Add([]byte{9, 5, 0, 9, 5, 0}, "z")
	f.Fuzz(func(t *testing.T, b []byte, key string) {
		rows := [][]api.Entry{nil}
		for len(b) > 0 {
			last := len(rows) - 1
			switch {
			case b[0] == 255:
				rows = append(rows, nil)
				b = b[1:]
			case len(b) < 3:
				b = nil
			default:
				rows[last] = append(rows[last], api.Entry{Key: []byte(strings.Repeat(string(rune('a'+b[0]%4)), int(b[0]%3))), Seq: int64(b[1] % 8), Gone: b[2] == 1, Value: b[2:3]})
				b = b[3:]
			}
		}
		agrees(t, rows, []string{key, "", "aa", key})
	})
}
