package table_test

import (
	"bytes"
	"math"
	"slices"
	"strings"
	"testing"

	"halyard/api"
	"halyard/block"
	"halyard/table"
)

func wantBuild(t *testing.T, l []api.Entry, want []byte) {
	t.Helper()
	given, unchanged := guarded(l)
	got, errno := table.Build(given)
	if errno != api.OK || !bytes.Equal(got, want) {
		t.Errorf("Build(%s) = %.60x, %d, not %.60x", show(l), got, errno, want)
	}
	overwrite(got)
	unchanged(t)
	again, errno := table.Build(given)
	if errno != api.OK || !bytes.Equal(again, want) {
		t.Errorf("Build(%s) tells bytes that it keeps", show(l))
	}
}

func wantNotBuilt(t *testing.T, l []api.Entry, want api.Errno) {
	t.Helper()
	given, unchanged := guarded(l)
	got, errno := table.Build(given)
	if errno != want || got != nil {
		t.Errorf("Build(%s) = %.60x, %d, not %d", show(l), got, errno, want)
	}
	unchanged(t)
}

// P12.1: bytes that were reckoned by other means.
func TestBuildExamples(t *testing.T) {
	wantBuild(t, example(), unhex(t, `00 01 61 01 00 00 01 78 / 00 00 00 00 / 00 00 00 01 / 7a b7 ba 23`+
		`01 61 00 10 / 41 c8 f7 11 / 01 30 00 02 40 00 08 00 / 8d e5 2f e1`+
		`00 00 00 14 / 00 00 00 04 / 00 00 00 1c / 00 00 00 08 / 00 00 00 01 / 88 9a 85 8b / 68 61 6c 79 61 72 64 31`))
	two := of(put("k", 300, 7, strings.Repeat("v", 239)), away("k", 2), put("kk", 1, 0, ""))
	wantBuild(t, two, unhex(t, `00 01 6b ac 02 00 07 ef 01`+strings.Repeat("76", 239)+`00 00 00 00 / 00 00 00 01 / 59 f1 b4 02`+
		`00 01 6b 02 01 / 01 01 6b 01 00 00 00 / 00 00 00 00 / 00 00 00 01 / 51 6f 58 0d`+
		`01 6b 00 80 02 / 02 6b 6b 84 02 14 / ef de 11 96 / 00 0c 88 04 12 81 42 40 / b1 cf 20 9c`+
		`00 00 01 1c / 00 00 00 0b / 00 00 01 2b / 00 00 00 08 / 00 00 00 03 / ca 65 96 11 / 68 61 6c 79 61 72 64 31`))
}

// P12.1: of each list the chapter's bytes.
func TestBuildOfGoodLists(t *testing.T) {
	for _, l := range good() {
		wantBuild(t, l, bytesOf(l))
	}
}

// P12.1: where a block is ended, told by hand.
func TestBuildEndsBlocks(t *testing.T) {
	seventeen := func(n int) []api.Entry {
		var l []api.Entry
		for i := range n {
			l = append(l, weighing(string([]byte{'a' + byte(i)}), 1, 17))
		}
		return l
	}
	for _, c := range []struct {
		l    []api.Entry
		ends []int
	}{
		{of(weighing("a", 1, 256)), []int{1}},
		{of(weighing("a", 1, 256), weighing("b", 1, 17)), []int{1, 2}},
		{of(weighing("a", 1, 255), weighing("b", 1, 17)), []int{2}},
		{of(weighing("a", 1, 255), weighing("b", 1, 17), weighing("c", 1, 17)), []int{2, 3}},
		{of(weighing("a", 1, 257), weighing("b", 1, 17)), []int{1, 2}},
		{of(weighing("a", 1, 128), weighing("b", 1, 128), weighing("c", 1, 128)), []int{2, 3}},
		{of(weighing("a", 1, 128), weighing("b", 1, 127), weighing("c", 1, 128)), []int{3}},
		{of(weighing("a", 1, 128), weighing("b", 1, 129), weighing("c", 1, 255), weighing("d", 1, 256)), []int{2, 4}},
		{of(weighing("a", 1, 2065), weighing("b", 1, 255), weighing("c", 1, 2065), weighing("d", 1, 17)), []int{1, 3, 4}},
		{of(weighing("a", 9, 200), away("a", 8), away("a", 7), away("a", 6), away("a", 5)), []int{5}},
		{of(weighing("a", 9, 205), away("a", 8), away("a", 7), away("a", 6), away("a", 5)), []int{4, 5}},
		{of(put("a", 9, bound, strings.Repeat("u", 238)), put("b", bound, bound, "")), []int{2}},
		{of(put(strings.Repeat("k", 240), 1, 0, ""), away("l", 1)), []int{1, 2}},
		{of(put(strings.Repeat("k", 239), 1, 0, ""), away("l", 1)), []int{2}},
		{seventeen(15), []int{15}},
		{seventeen(16), []int{16}},
		{seventeen(17), []int{16, 17}},
		{of(weighing("a", 3, 256), weighing("a", 2, 256), weighing("a", 1, 17), weighing("b", 1, 17)), []int{1, 2, 4}},
	} {
		var parts [][]api.Entry
		begin := 0
		for _, end := range c.ends {
			parts = append(parts, c.l[begin:end])
			begin = end
		}
		wantBuild(t, c.l, draftOf(parts...).bytes())
	}
}

// P12.1: the filter has each key once, of how many numbers ever it is.
func TestBuildCountsKeysOnce(t *testing.T) {
	b := build(t, numbersOf("one", falling(500, 1, 500)...))
	b2 := build(t, append(numbersOf("one", falling(500, 1, 250)...), numbersOf("two", falling(500, 1, 250)...)...))
	for _, whole := range [][]byte{b, b2} {
		if length := whole[len(whole)-20 : len(whole)-16]; !bytes.Equal(length, u32(8)) {
			t.Errorf("a filter of so few keys has %x bytes", length)
		}
	}
}

// P12.1: how many entries.
func TestBuildTooManyOrNone(t *testing.T) {
	wantNotBuilt(t, nil, api.ErrMany)
	wantNotBuilt(t, []api.Entry{}, api.ErrMany)
	wantNotBuilt(t, many(4001), api.ErrMany)
	wantNotBuilt(t, many(5000), api.ErrMany)
	wantNotBuilt(t, make([]api.Entry, 4001), api.ErrMany)
	wantNotBuilt(t, numbersOf("k", falling(4001, 1, 4001)...), api.ErrMany)
	if got, errno := table.Build(many(4001)[:0]); errno != api.ErrMany || got != nil {
		t.Errorf("an empty list with entries behind its length: %x, %d", got, errno)
	}
}

// wrongEntries may not be.
func wrongEntries() []api.Entry {
	return []api.Entry{
		{},
		put("", 1, 0, "x"),
		put(strings.Repeat("k", 513), 1, 0, ""),
		put("k", 1, 0, strings.Repeat("v", 2049)),
		put("k", 0, 0, ""),
		put("k", -1, 0, ""),
		put("k", math.MinInt64, 0, ""),
		put("k", bound+1, 0, ""),
		put("k", math.MaxInt64, 0, ""),
		put("k", 1, -1, ""),
		put("k", 1, bound+1, ""),
		put("k", 1, math.MinInt64, ""),
		{Key: []byte("k"), Seq: 1, Gone: true, Until: 1},
		{Key: []byte("k"), Seq: 1, Gone: true, Value: []byte("x")},
	}
}

// P12.1: entries that may not be, at each place.
func TestBuildOfWrongEntries(t *testing.T) {
	for _, e := range wrongEntries() {
		wantNotBuilt(t, of(e), api.ErrArg)
		l := many(40)
		for _, place := range []int{0, 1, 7, 20, 39, 40} {
			wantNotBuilt(t, slices.Insert(slices.Clone(l), place, e), api.ErrArg)
		}
	}
}

// P12.1: lists that are not in order, within a block and across two.
func TestBuildOutOfOrder(t *testing.T) {
	for _, l := range [][]api.Entry{
		of(put("b", 1, 0, ""), put("a", 1, 0, "")),
		of(put("a", 1, 0, ""), put("a", 2, 0, "")),
		of(put("a", 1, 0, ""), put("a", 1, 0, "")),
		of(put("a", 1, 0, ""), away("a", 1)),
		of(put("ab", 1, 0, ""), put("a", 1, 0, "")),
		of(put("\x80", 1, 0, ""), put("\x7f", 1, 0, "")),
		of(weighing("b", 1, 256), weighing("a", 1, 256)),
		of(weighing("a", 1, 256), weighing("a", 1, 256)),
		of(weighing("a", 1, 256), weighing("a", 2, 256)),
		of(weighing("a", bound-1, 256), away("a", bound)),
	} {
		wantNotBuilt(t, l, api.ErrOrder)
	}
	l := many(60)
	for i := range len(l) - 1 {
		swapped := slices.Clone(l)
		swapped[i], swapped[i+1] = l[i+1], l[i]
		wantNotBuilt(t, swapped, api.ErrOrder)
		wantNotBuilt(t, slices.Insert(slices.Clone(l), i, l[i]), api.ErrOrder)
	}
}

// P12.1: which error is told where more than one is there.
func TestBuildFirstError(t *testing.T) {
	wrong := put("", 1, 0, "")
	wantNotBuilt(t, append(many(4000), wrong), api.ErrMany)
	wantNotBuilt(t, append(many(4000), put("a", 1, 0, "")), api.ErrMany)
	wantNotBuilt(t, of(put("b", 1, 0, ""), put("a", 1, 0, ""), wrong), api.ErrArg)
	wantNotBuilt(t, of(wrong, wrong), api.ErrArg)
	heavy := sized(maxFile + 1)
	wantNotBuilt(t, append(slices.Clone(heavy), put("0", 1, 0, "")), api.ErrOrder)
	wantNotBuilt(t, append(slices.Clone(heavy), put("~", 0, 0, "")), api.ErrArg)
	full := heavy
	for len(full) < 4001 {
		full = append(full, put("~", int64(9000-len(full)), 0, ""))
	}
	wantNotBuilt(t, full, api.ErrMany)
	wantNotBuilt(t, full[:4000], api.ErrRoom)
}

// P12.1: MaxFile bytes, and more.
func TestBuildRoom(t *testing.T) {
	for _, size := range []int{maxFile - 1, maxFile} {
		l := sized(size)
		want := bytesOf(l)
		if len(want) != size {
			t.Fatalf("a table of %d bytes, not %d", len(want), size)
		}
		wantBuild(t, l, want)
		if x := open(t, want); x.Len() != len(l) || !same(x.All(), l) {
			t.Errorf("a table of %d bytes does not tell its entries", size)
		}
	}
	l := sized(maxFile + 1)
	if size := len(bytesOf(l)); size != maxFile+1 {
		t.Fatalf("a table of %d bytes, not %d", size, maxFile+1)
	}
	wantNotBuilt(t, l, api.ErrRoom)
	var heaviest []api.Entry
	for i := range 4000 {
		key := join([]byte{byte(i >> 8), byte(i)}, row(int64(i), 510))
		heaviest = append(heaviest, api.Entry{Key: key, Seq: bound, Until: bound, Value: row(1, 2048)})
	}
	wantNotBuilt(t, heaviest, api.ErrRoom)
}

// P12.1: each block is one that block takes.
func TestBuildBlocksAreBlocks(t *testing.T) {
	for _, l := range small() {
		d := draftOf(cuts(l)...)
		b := build(t, l)
		var all []api.Entry
		for _, x := range d.lines {
			entries, errno := block.Decode(b[x.place : x.place+x.length])
			if errno != api.OK || !bytes.Equal(entries[len(entries)-1].Key, x.last) {
				t.Errorf("the block at %d of %s: %d", x.place, show(l), errno)
			}
			all = append(all, entries...)
		}
		if !same(all, l) {
			t.Errorf("the blocks have %s, not %s", show(all), show(l))
		}
	}
}
