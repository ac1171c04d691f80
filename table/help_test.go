package table_test

import (
	"bytes"
	"encoding/hex"
	"fmt"
	"math/rand"
	"slices"
	"sort"
	"strings"
	"testing"

	"halyard/api"
	"halyard/mem"
	"halyard/table"
)

// row is n bytes that look like nothing in particular, the same for the same seed.
func row(seed int64, n int) []byte {
	b := make([]byte, n)
	rand.New(rand.NewSource(seed)).Read(b)
	return b
}

// unhex reads bytes as the document writes them: with blanks and strokes between.
func unhex(t *testing.T, text string) []byte {
	t.Helper()
	b, err := hex.DecodeString(strings.NewReplacer(" ", "", "/", "").Replace(text))
	if err != nil {
		t.Fatal(err)
	}
	return b
}

func put(key string, seq, until int64, value string) api.Entry {
	return api.Entry{Key: []byte(key), Seq: seq, Until: until, Value: []byte(value)}
}

func away(key string, seq int64) api.Entry {
	return api.Entry{Key: []byte(key), Seq: seq, Gone: true}
}

func of(entries ...api.Entry) []api.Entry { return entries }

func example() []api.Entry { return of(put("a", 1, 0, "x")) }

// weighing is an entry of that weight.
func weighing(key string, seq int64, weight int) api.Entry {
	return put(key, seq, 0, strings.Repeat("w", weight-16-len(key)))
}

// many are n entries in order, of one to three numbers a key, put and taken away.
func many(n int) []api.Entry {
	var l []api.Entry
	for i := range n {
		e := put(fmt.Sprintf("key/%05d", i/3*7), int64(90000-i*11), int64(i%4*200), strings.Repeat("v", i%20))
		if i%5 == 3 {
			e = away(string(e.Key), e.Seq)
		}
		l = append(l, e)
	}
	return l
}

// numbersOf are entries of one key with these numbers.
func numbersOf(key string, numbers ...int64) []api.Entry {
	var l []api.Entry
	for i, n := range numbers {
		e := put(key, n, n, "v")
		if i%2 == 1 {
			e = away(key, n)
		}
		l = append(l, e)
	}
	return l
}

// falling are the n numbers from top down, each step apart.
func falling(top, step int64, n int) []int64 {
	var all []int64
	for i := range n {
		all = append(all, top-step*int64(i))
	}
	return all
}

func longKey(last byte) string { return strings.Repeat("k", 511) + string([]byte{last}) }

// small are lists that may be, the edges among them; none of them has many bytes.
func small() [][]api.Entry {
	all := [][]api.Entry{
		example(),
		of(away("a", 1)),
		of(put("a", 1, 0, "")),
		of(api.Entry{Key: []byte{0}, Seq: 1}),
		of(api.Entry{Key: []byte{0xff}, Seq: bound, Until: bound, Value: []byte{}}),
		of(away("\x00", 2), away("\x00", 1), put("\x00\x00", 1, 1, "\x00"), put("\x80", 1, 128, ""), away("\xff", 1), away("\xff\x00", 9), away("\xff\xff", 1)),
		of(put("ab", 3, 0, "x"), away("abc", 2), put("b", 9, 9, "y")),
		numbersOf("one", falling(9, 1, 9)...),
		numbersOf("one", falling(bound, 1, 12)...),
		numbersOf("one", falling(2000, 3, 100)...),
		append(numbersOf("a", falling(40, 1, 20)...), numbersOf("b", falling(40, 1, 20)...)...),
		of(weighing("a", 2, 256), put("a", 1, 0, "behind")),
		of(weighing("a", 2, 255), put("a", 1, 0, "behind"), put("b", 1, 0, "")),
		of(weighing("a", 2, 257), away("b", 1)),
		of(weighing("a", 2, 256), weighing("b", 2, 256), weighing("c", 2, 256)),
		of(weighing("a", 9, 256), weighing("a", 8, 256), weighing("a", 7, 256)),
	}
	for _, n := range []int{1, 2, 8, 9, 16, 17, 30, 100} {
		all = append(all, many(n))
	}
	return all
}

// good are small and such lists with more bytes.
func good() [][]api.Entry {
	all := append(small(),
		many(1000), many(3999), many(4000),
		numbersOf("one", falling(4000, 1, 4000)...),
		numbersOf(longKey('z'), falling(bound, 1, 50)...),
		of(put(longKey('a'), 2, 0, string(row(1, 2048))), away(longKey('a'), 1), put(longKey('b'), 1, 0, "y")),
	)
	for _, n := range []int{1, 127, 128, 239, 240, 241, 511, 512} {
		key := string(row(4, n))
		all = append(all, of(put(key, 2, 0, string(row(5, n))), away(key, 1)))
	}
	for _, n := range []int{0, 127, 128, 2047, 2048} {
		all = append(all, of(put("k", 9, 7, string(row(6, n))), put("kk", 1, 0, string(row(7, n)))))
	}
	return all
}

// sized are entries whose table has just so many bytes (at least some 10000).
func sized(size int) []api.Entry {
	full := func(i int) api.Entry { return put(fmt.Sprintf("%04d", i), 100, 0, strings.Repeat("f", 2048)) }
	var l []api.Entry
	for i := range 4000 {
		l = append(l, full(i))
	}
	above := sort.Search(len(l), func(i int) bool { return len(bytesOf(l[:i+1])) > size })
	// The last two have the rest: their values are neither so short that they would share a block nor too long.
	l = l[:above+1]
	a, b := &l[above-1], &l[above]
	a.Value, b.Value = a.Value[:1000], b.Value[:1000]
	rest := size - len(bytesOf(l))
	a.Value, b.Value = a.Value[:1000+rest/2], b.Value[:1000+rest-rest/2]
	return l
}

func show(l []api.Entry) string {
	var text strings.Builder
	fmt.Fprintf(&text, "%d entries:", len(l))
	for _, e := range l[:min(len(l), 5)] {
		fmt.Fprintf(&text, " {%.20q %d %v %d %.20q}", e.Key, e.Seq, e.Gone, e.Until, e.Value)
	}
	return text.String()
}

func sameEntry(a, b api.Entry) bool {
	return bytes.Equal(a.Key, b.Key) && a.Seq == b.Seq && a.Gone == b.Gone && a.Until == b.Until && bytes.Equal(a.Value, b.Value)
}

func same(a, b []api.Entry) bool { return slices.EqualFunc(a, b, sameEntry) }

func zero(e api.Entry) bool { return sameEntry(e, api.Entry{}) }

// withRoom is a copy of s with other bytes behind its length, and all of the copy.
func withRoom(s []byte) ([]byte, []byte) {
	whole := join(s, bytes.Repeat([]byte{0xee}, 40))
	return whole[:len(s)], whole
}

// guardedBytes is a copy of b with room behind its length, and a look whether all of it stayed as it was.
func guardedBytes(b []byte) ([]byte, func(t *testing.T)) {
	given, whole := withRoom(b)
	before := bytes.Clone(whole)
	return given, func(t *testing.T) {
		t.Helper()
		if !bytes.Equal(whole, before) {
			t.Errorf("the argument %.60x was changed", b)
		}
	}
}

// guarded is guardedBytes' like for entries: each list of theirs, and their own, have room.
func guarded(l []api.Entry) ([]api.Entry, func(t *testing.T)) {
	whole := make([]api.Entry, len(l)+3)
	var wholes, before [][]byte
	for i := range whole {
		e := put("behind", 9, 9, "behind")
		if i < len(l) {
			e = l[i]
		}
		var key, value []byte
		e.Key, key = withRoom(e.Key)
		e.Value, value = withRoom(e.Value)
		whole[i] = e
		wholes = append(wholes, key, value)
		before = append(before, bytes.Clone(key), bytes.Clone(value))
	}
	image := slices.Clone(whole)
	return whole[:len(l)], func(t *testing.T) {
		t.Helper()
		if !same(whole, image) || !slices.EqualFunc(wholes, before, bytes.Equal) {
			t.Errorf("the argument %s was changed", show(l))
		}
	}
}

// overwrite changes each byte that the slice reaches, also those behind its length.
func overwrite(b []byte) {
	b = b[:cap(b)]
	for i := range b {
		b[i] ^= 0xff
	}
}

func lists(l []api.Entry) [][]byte {
	var all [][]byte
	for _, e := range l {
		all = append(all, e.Key, e.Value)
	}
	return all
}

// wantApart overwrites one list after the other, with what lies behind its length, and looks whether another one changed.
func wantApart(t *testing.T, all [][]byte) {
	t.Helper()
	before := make([][]byte, len(all))
	for i, l := range all {
		before[i] = bytes.Clone(l)
	}
	for i, l := range all {
		overwrite(l)
		for j, other := range all {
			if j != i && !bytes.Equal(other, before[j]) {
				t.Errorf("the lists %d and %d share memory", i, j)
			}
		}
		overwrite(l)
	}
}

// build is the bytes of a table that may be.
func build(t *testing.T, l []api.Entry) []byte {
	t.Helper()
	b, errno := table.Build(l)
	if errno != api.OK {
		t.Fatalf("Build(%s): %d", show(l), errno)
	}
	return b
}

// open is the table of bytes that are one.
func open(t *testing.T, b []byte) *table.Table {
	t.Helper()
	x, errno := table.Open(b)
	if errno != api.OK || x == nil {
		t.Fatalf("Open(%.60x): %v, %d", b, x, errno)
	}
	return x
}

func tableOf(t *testing.T, l []api.Entry) *table.Table {
	t.Helper()
	return open(t, build(t, l))
}

func memOf(t *testing.T, l []api.Entry) *mem.Mem {
	t.Helper()
	m := mem.New()
	for _, e := range l {
		if errno := m.Add(e); errno != api.OK {
			t.Fatalf("Add(%s): %d", show(of(e)), errno)
		}
	}
	return m
}
