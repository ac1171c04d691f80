package table_test

import (
	"bytes"
	"encoding/binary"
	"fmt"
	"math"
	"math/rand"
	"slices"
	"strings"
	"testing"

	"halyard/api"
	"halyard/block"
	"halyard/bloom"
	"halyard/table"
)

// wantRefused holds Open's answer against the error, and against the chapter's words.
func wantRefused(t *testing.T, name string, b []byte, want api.Errno) {
	t.Helper()
	given, unchanged := guardedBytes(b)
	got, errno := table.Open(given)
	if errno != want || got != nil {
		t.Errorf("%s: Open = %v, %d, not %d", name, got != nil, errno, want)
	}
	if _, words := opened(b); words != want {
		t.Errorf("%s: the chapter's words say %d, not %d", name, words, want)
	}
	unchanged(t)
}

// base has several blocks, and keys that go on from one into the next.
func base() []api.Entry { return many(60) }

func numbersIn(b []byte) [5]uint32 {
	var numbers [5]uint32
	for i := range numbers {
		numbers[i] = binary.BigEndian.Uint32(b[len(b)-32+4*i:])
	}
	return numbers
}

func bodyOf(b []byte) []byte { return b[:len(b)-32] }

// changed is b with the byte at the place as another one.
func changed(b []byte, place int, by byte) []byte {
	c := bytes.Clone(b)
	c[place] ^= by
	return c
}

// blocksIn are the bytes of the entries' blocks, cut as the chapter says, and their last keys.
func blocksIn(l []api.Entry) (blocks, lasts [][]byte) {
	for _, part := range cuts(l) {
		b, _ := block.Encode(part)
		blocks = append(blocks, b)
		lasts = append(lasts, part[len(part)-1].Key)
	}
	return blocks, lasts
}

// laid is d with these blocks instead of its own.
func (d draft) laid(blocks, lasts [][]byte) draft {
	d.blocks, d.lines = nil, nil
	for i, b := range blocks {
		d.add(lasts[i], b)
	}
	return d
}

// withLine is d with another line in its index.
func (d draft) withLine(i int, change func(x *line)) draft {
	d.lines = slices.Clone(d.lines)
	change(&d.lines[i])
	return d
}

// P12.2: fewer than 32 bytes, and 32.
func TestOpenShort(t *testing.T) {
	wantRefused(t, "nil", nil, api.ErrShort)
	wantRefused(t, "no byte", []byte{}, api.ErrShort)
	whole := build(t, base())
	for n := range 32 {
		wantRefused(t, fmt.Sprint("the first ", n), whole[:n], api.ErrShort)
		wantRefused(t, fmt.Sprint("the last ", n), whole[len(whole)-n:], api.ErrShort)
		wantRefused(t, fmt.Sprint("noughts ", n), make([]byte, n), api.ErrShort)
	}
	wantRefused(t, "32 noughts", make([]byte, 32), api.ErrForm)
	wantRefused(t, "a mark alone", append(make([]byte, 24), mark...), api.ErrSum)
	wantRefused(t, "a foot alone", whole[len(whole)-32:], api.ErrForm)
	wantRefused(t, "a foot of noughts", withFoot(nil, 0, 0, 0, 0, 0), api.ErrForm)
}

// P12.2: the last eight bytes, ahead of all that is wrong elsewhere.
func TestOpenMark(t *testing.T) {
	whole := build(t, base())
	for i := len(whole) - 8; i < len(whole); i++ {
		for by := 1; by < 256; by++ {
			wantRefused(t, "the mark", changed(whole, i, byte(by)), api.ErrForm)
		}
		wantRefused(t, "the mark and the foot's sum", changed(changed(whole, i, 1), len(whole)-9, 1), api.ErrForm)
		wantRefused(t, "the mark and a block's sum", changed(changed(whole, i, 1), 0, 1), api.ErrForm)
	}
	wantRefused(t, "one byte behind", append(bytes.Clone(whole), 0), api.ErrForm)
}

// P12.2: the foot's sum.
func TestOpenFootSum(t *testing.T) {
	whole := build(t, base())
	for i := len(whole) - 32; i < len(whole)-8; i++ {
		for by := 1; by < 256; by++ {
			wantRefused(t, "the foot", changed(whole, i, byte(by)), api.ErrSum)
		}
	}
	foot := withFoot(bodyOf(whole), math.MaxUint32, 1, 2, 3, 4)
	wantRefused(t, "the foot's sum and its places", changed(foot, len(foot)-9, 1), api.ErrSum)
	bare := binary.BigEndian.AppendUint32(bytes.Clone(whole[:len(whole)-12]), unmasked(whole))
	wantRefused(t, "the foot's sum without a mask", append(bare, mark...), api.ErrSum)
}

// unmasked is the foot's sum as it is.
func unmasked(whole []byte) uint32 {
	told := binary.BigEndian.Uint32(whole[len(whole)-12:]) - 0xa282ead8
	return told<<15 | told>>17
}

// P12.2: places and lengths of the foot.
func TestOpenFootPlaces(t *testing.T) {
	whole := build(t, base())
	body := bodyOf(whole)
	end := uint32(len(body))
	n := numbersIn(whole)
	for _, c := range []struct {
		name    string
		numbers [5]uint32
		want    api.Errno
	}{
		{"the index at the end", [5]uint32{end, n[1], n[2], n[3], n[4]}, api.ErrForm},
		{"no index, at the end", [5]uint32{end, 0, n[2], n[3], n[4]}, api.ErrForm},
		{"the index one into the foot", [5]uint32{end - n[1] - 3, n[1], n[2], n[3], n[4]}, api.ErrForm},
		{"the index up to the foot", [5]uint32{end - n[1] - 4, n[1], n[2], n[3], n[4]}, api.ErrSum},
		{"the index too long by one", [5]uint32{n[0], end - n[0] - 3, n[2], n[3], n[4]}, api.ErrForm},
		{"the index as long as can be", [5]uint32{n[0], end - n[0] - 4, n[2], n[3], n[4]}, api.ErrSum},
		{"the index past the table", [5]uint32{end + 100, n[1], n[2], n[3], n[4]}, api.ErrForm},
		{"the index's place past all", [5]uint32{math.MaxUint32, n[1], n[2], n[3], n[4]}, api.ErrForm},
		{"the index's length past all", [5]uint32{n[0], math.MaxUint32, n[2], n[3], n[4]}, api.ErrForm},
		{"the index past 32 bits in sum", [5]uint32{math.MaxUint32 - 15, 32, n[2], n[3], n[4]}, api.ErrForm},
		{"the index's sum past 32 bits", [5]uint32{math.MaxUint32, 0, n[2], n[3], n[4]}, api.ErrForm},
		{"the filter at the end", [5]uint32{n[0], n[1], end, n[3], n[4]}, api.ErrForm},
		{"no filter, at the end", [5]uint32{n[0], n[1], end, 0, n[4]}, api.ErrForm},
		{"the filter one on", [5]uint32{n[0], n[1], n[2] + 1, n[3], n[4]}, api.ErrForm},
		{"the filter longer by one", [5]uint32{n[0], n[1], n[2], n[3] + 1, n[4]}, api.ErrForm},
		{"the filter longer by its sum", [5]uint32{n[0], n[1], n[2], n[3] + 4, n[4]}, api.ErrForm},
		{"the filter's place past all", [5]uint32{n[0], n[1], math.MaxUint32, n[3], n[4]}, api.ErrForm},
		{"the filter's length past all", [5]uint32{n[0], n[1], n[2], math.MaxUint32, n[4]}, api.ErrForm},
		{"the filter past 32 bits in sum", [5]uint32{n[0], n[1], math.MaxUint32 - 7, 16, n[4]}, api.ErrForm},
		{"both past 32 bits", [5]uint32{math.MaxUint32, math.MaxUint32, math.MaxUint32, math.MaxUint32, math.MaxUint32}, api.ErrForm},
		{"the index one back", [5]uint32{n[0] - 1, n[1], n[2], n[3], n[4]}, api.ErrSum},
		{"the index one on", [5]uint32{n[0] + 1, n[1], n[2], n[3], n[4]}, api.ErrSum},
		{"the index shorter by one", [5]uint32{n[0], n[1] - 1, n[2], n[3], n[4]}, api.ErrSum},
		{"the index longer by one", [5]uint32{n[0], n[1] + 1, n[2], n[3], n[4]}, api.ErrSum},
		{"no index", [5]uint32{n[0], 0, n[2], n[3], n[4]}, api.ErrSum},
		{"the filter one back", [5]uint32{n[0], n[1], n[2] - 1, n[3], n[4]}, api.ErrSum},
		{"the filter shorter by one", [5]uint32{n[0], n[1], n[2], n[3] - 1, n[4]}, api.ErrSum},
		{"no filter", [5]uint32{n[0], n[1], n[2], 0, n[4]}, api.ErrSum},
		{"the index as the filter", [5]uint32{n[0], n[1], n[0], n[1], n[4]}, api.ErrForm},
		{"the filter as the index", [5]uint32{n[2], n[3], n[2], n[3], n[4]}, api.ErrForm},
		{"turned round", [5]uint32{n[2], n[3], n[0], n[1], n[4]}, api.ErrForm},
		{"all of it as the index", [5]uint32{0, end - 4, n[2], n[3], n[4]}, api.ErrSum},
	} {
		wantRefused(t, c.name, withFoot(body, c.numbers[:]...), c.want)
	}
	spoilt := changed(body, int(n[0]), 1)
	wantRefused(t, "the filter's place ahead of the index's sum", withFoot(spoilt, n[0], n[1], end, n[3], n[4]), api.ErrForm)
}

// P12.2: the sums of the index, the filter, each block.
func TestOpenPartSums(t *testing.T) {
	whole := build(t, base())
	for i := range len(whole) - 32 {
		for _, by := range []byte{1, 0x80, 0xff} {
			wantRefused(t, fmt.Sprint("the byte ", i), changed(whole, i, by), api.ErrSum)
		}
	}
}

// P12.2: an index that is none.
func TestOpenIndex(t *testing.T) {
	d := draftOf(cuts(base())...)
	index := d.index()
	last := len(d.lines) - 1
	size := len(d.blocks)
	with := func(i int, change func(x *line)) []byte { return d.withLine(i, change).bytes() }
	for n := range index {
		// Behind a whole line it is an index, but of fewer blocks.
		wantRefused(t, fmt.Sprint("an index of ", n), d.withIndex(index[:n]), api.ErrForm)
	}
	first := d.lines[0].bytes()
	keyed := len(d.lines[0].last) + 1
	for _, c := range []struct {
		name string
		b    []byte
		want api.Errno
	}{
		{"no block", d.withIndex(nil), api.ErrForm},
		{"one nought", d.withIndex([]byte{0}), api.ErrForm},
		{"a key's length needlessly long", d.withIndex(join([]byte{first[0] | 0x80, 0}, index[1:])), api.ErrForm},
		{"a place needlessly long", d.withIndex(join(first[:keyed], []byte{0x80, 0}, index[keyed+1:])), api.ErrForm},
		{"a length needlessly long", d.withIndex(join(index, d.lines[last].bytes()[:1+len(d.lines[last].last)], uvarint(0), []byte{0x81, 0})), api.ErrForm},
		{"a place past 64 bits", d.withIndex(join(first[:keyed], bytes.Repeat([]byte{0xff}, 9), []byte{2, 1})), api.ErrForm},
		{"a length past 64 bits", d.withIndex(join(first[:keyed+1], bytes.Repeat([]byte{0xff}, 10), []byte{1})), api.ErrForm},
		{"a number without an end", d.withIndex(join(index, bytes.Repeat([]byte{0x80}, 50))), api.ErrForm},
		{"a key of no bytes", with(0, func(x *line) { x.last = nil }), api.ErrForm},
		{"a key of 513", with(last, func(x *line) { x.last = []byte(strings.Repeat("z", 513)) }), api.ErrForm},
		{"a key's length past all", d.withIndex(join(uvarint(math.MaxUint64), index)), api.ErrForm},
		{"another key of 512", with(last, func(x *line) { x.last = []byte(strings.Repeat("z", 512)) }), api.ErrForm},
		{"another key", with(0, func(x *line) { x.last = []byte("key/00000") }), api.ErrForm},
		{"the first key of a block", with(1, func(x *line) { x.last = cuts(base())[1][0].Key }), api.ErrForm},
		{"a place less by one", with(1, func(x *line) { x.place-- }), api.ErrSum},
		{"a place more by one", with(1, func(x *line) { x.place++ }), api.ErrSum},
		{"the last place more by one", with(last, func(x *line) { x.place++ }), api.ErrForm},
		{"a length less by one", with(1, func(x *line) { x.length-- }), api.ErrSum},
		{"a length more by one", with(1, func(x *line) { x.length++ }), api.ErrSum},
		{"the last length less by one", with(last, func(x *line) { x.length-- }), api.ErrSum},
		{"the last length more by one", with(last, func(x *line) { x.length++ }), api.ErrForm},
		{"the last length more by its sum", with(last, func(x *line) { x.length += 4 }), api.ErrForm},
		{"a length up to the index", with(0, func(x *line) { x.length = uint64(size - 4) }), api.ErrSum},
		{"a length one into the index", with(0, func(x *line) { x.length = uint64(size - 3) }), api.ErrForm},
		{"a length of all ahead", with(0, func(x *line) { x.length = uint64(size) }), api.ErrForm},
		{"no length", with(0, func(x *line) { x.length = 0 }), api.ErrSum},
		{"a place at the index", with(0, func(x *line) { x.place = uint64(size) }), api.ErrForm},
		{"a place past the index", with(0, func(x *line) { x.place = uint64(size) + 9 }), api.ErrForm},
		{"a place past 32 bits", with(0, func(x *line) { x.place += 1 << 32 }), api.ErrForm},
		{"a place of 2^63", with(0, func(x *line) { x.place = 1 << 63 }), api.ErrForm},
		{"a length of 2^63", with(0, func(x *line) { x.length = 1 << 63 }), api.ErrForm},
		{"a length past 32 bits", with(0, func(x *line) { x.length += 1 << 32 }), api.ErrForm},
		{"the greatest place", with(1, func(x *line) { x.place = math.MaxUint64 }), api.ErrForm},
		{"the greatest length", with(1, func(x *line) { x.length = math.MaxUint64 }), api.ErrForm},
		{"a sum that wraps to 0", with(1, func(x *line) { x.place = math.MaxUint64 - x.length - 3 }), api.ErrForm},
		{"a sum that wraps to the end", with(1, func(x *line) { x.place, x.length = 9, math.MaxUint64-8 }), api.ErrForm},
		{"a sum of two halves that wraps", with(1, func(x *line) { x.place, x.length = 1<<63, 1<<63 }), api.ErrForm},
		{"the first block once more", d.withIndex(join(index, first)), api.ErrForm},
		{"the last block once more", d.withIndex(join(index, d.lines[last].bytes())), api.ErrForm},
		{"the first block twice at first", d.withIndex(join(first, index)), api.ErrForm},
		{"the first block missing", d.withIndex(index[len(first):]), api.ErrForm},
		{"a block in the middle missing", d.withIndex(join(first, index[len(first)+len(d.lines[1].bytes()):])), api.ErrForm},
		{"a block that is none more", d.withIndex(join(index, line{[]byte("z"), 0, 0}.bytes())), api.ErrSum},
	} {
		wantRefused(t, c.name, c.b, c.want)
	}
}

// P12.2: a block that is none, with its sum right.
func TestOpenBlocks(t *testing.T) {
	l := base()
	d := draftOf(cuts(l)...)
	blocks, lasts := blocksIn(l)
	one := "/ 00 00 00 00 / 00 00 00 01"
	for _, c := range []struct {
		name string
		hex  string
		want api.Errno
	}{
		{"no byte", "", api.ErrShort},
		{"three bytes", "00 00 01", api.ErrShort},
		{"an entry that ends in its number", "00 01 61 80" + one, api.ErrShort},
		{"a key that lacks bytes", "00 05 61" + one, api.ErrShort},
		{"no restart", "00 01 61 01 00 00 01 78 / 00 00 00 00", api.ErrForm},
		{"more restarts than bytes", "00 01 61 01 00 00 01 78 / 00 00 00 05", api.ErrForm},
		{"the first shares a byte", "01 01 61 01 00 00 01 78" + one, api.ErrForm},
		{"neither gone nor not", "00 01 61 01 02" + one, api.ErrForm},
		{"a key too long", "00 81 04 61" + one, api.ErrLong},
		{"a value too long", "00 01 61 01 00 00 81 10 78" + one, api.ErrLong},
		{"a restart at 1", "00 01 61 01 00 00 01 78 / 00 00 00 01 / 00 00 00 01", api.ErrForm},
		{"no entry", "00 00 00 00 / 00 00 00 01", api.ErrForm},
		{"a number of 0", "00 01 61 00 00 00 01 78" + one, api.ErrForm},
	} {
		wrong := unhex(t, c.hex)
		if _, errno := block.Decode(wrong); errno != c.want {
			t.Fatalf("%s: Decode tells %d, not %d", c.name, errno, c.want)
		}
		for i := range blocks {
			with := slices.Clone(blocks)
			with[i] = wrong
			wantRefused(t, fmt.Sprint(c.name, " at ", i), d.laid(with, lasts).bytes(), c.want)
		}
		wantRefused(t, c.name+" alone", d.laid([][]byte{wrong}, lasts).bytes(), c.want)
	}
}

// P12.2: blocks that are blocks, but not those of a table.
func TestOpenOtherBlocks(t *testing.T) {
	l := base()
	d := draftOf(cuts(l)...)
	blocks, lasts := blocksIn(l)
	for i := range len(blocks) - 1 {
		order := make([]int, len(blocks))
		for j := range order {
			order[j] = j
		}
		order[i], order[i+1] = i+1, i
		var otherBlocks, otherLasts [][]byte
		var lines []line
		for _, j := range order {
			otherBlocks, otherLasts = append(otherBlocks, blocks[j]), append(otherLasts, lasts[j])
			lines = append(lines, d.lines[j])
		}
		wantRefused(t, "blocks out of order", d.laid(otherBlocks, otherLasts).bytes(), api.ErrForm)
		lined := d
		lined.lines = lines
		wantRefused(t, "an index out of order", lined.bytes(), api.ErrForm)
		twice := d.laid(slices.Insert(slices.Clone(blocks), i, blocks[i]), slices.Insert(slices.Clone(lasts), i, lasts[i]))
		wantRefused(t, "a block twice", twice.bytes(), api.ErrForm)
	}
	rightEnd := len(cuts(l)[0])
	for end := 1; end < rightEnd+5; end++ {
		if end == rightEnd {
			continue
		}
		parts := append([][]api.Entry{l[:end]}, cuts(l[end:])...)
		wantRefused(t, fmt.Sprint("a first block of ", end), draftOf(parts...).bytes(), api.ErrForm)
	}
	wantRefused(t, "one block", draftOf(l).bytes(), api.ErrForm)
	tail := cuts(l)[len(blocks)-1]
	parts := append(slices.Clone(cuts(l)[:len(blocks)-1]), tail[:1], tail[1:])
	wantRefused(t, "the last block in two", draftOf(parts...).bytes(), api.ErrForm)
	var single [][]api.Entry
	for _, e := range l {
		single = append(single, of(e))
	}
	wantRefused(t, "a block an entry", draftOf(single...).bytes(), api.ErrForm)
	for _, wrong := range [][]api.Entry{
		of(weighing("a", 1, 256), weighing("a", 1, 256)),
		of(weighing("a", 1, 256), weighing("a", 2, 256)),
		of(weighing("b", 1, 256), weighing("a", 1, 256)),
		many(4001),
		sized(maxFile + 1),
	} {
		wantRefused(t, "what Build refuses", draftOf(cuts(wrong)...).bytes(), api.ErrForm)
	}
}

// P12.2: a filter of other keys, and another number of entries.
func TestOpenFilterAndCount(t *testing.T) {
	l := base()
	right := draftOf(cuts(l)...)
	var keys [][]byte
	for _, e := range l {
		keys = append(keys, e.Key)
	}
	filterOf := func(keys ...[]byte) []byte {
		filter, _ := bloom.Build(keys)
		return filter
	}
	distinct := slices.CompactFunc(slices.Clone(keys), bytes.Equal)
	if !bytes.Equal(filterOf(distinct...), right.filter) {
		t.Fatal("the filter is not that of the keys")
	}
	for name, filter := range map[string][]byte{
		"no byte":          {},
		"noughts":          make([]byte, len(right.filter)),
		"ones":             bytes.Repeat([]byte{0xff}, len(right.filter)),
		"each number":      filterOf(keys...),
		"one key fewer":    filterOf(distinct[1:]...),
		"one key more":     filterOf(append([][]byte{[]byte("a")}, distinct...)...),
		"another key":      filterOf(append([][]byte{[]byte("other")}, distinct[1:]...)...),
		"one byte more":    join(right.filter, []byte{0}),
		"one bit more":     changed(right.filter, slices.IndexFunc(right.filter, func(c byte) bool { return c&1 == 0 }), 1),
		"one bit fewer":    changed(right.filter, slices.IndexFunc(right.filter, func(c byte) bool { return c&1 == 1 }), 1),
		"more than a file": make([]byte, maxFile),
	} {
		d := right
		d.filter = filter
		wantRefused(t, "a filter of "+name, d.bytes(), api.ErrForm)
	}
	for _, count := range []uint32{0, 1, uint32(len(l)) - 1, uint32(len(l)) + 1, 4000, 4001, 1 << 31, math.MaxUint32} {
		d := right
		d.count = count
		wantRefused(t, fmt.Sprint(count, " entries"), d.bytes(), api.ErrForm)
	}
}

// P12.2: bytes between the parts, with all that tells of places right.
func TestOpenBytesBetween(t *testing.T) {
	right := draftOf(cuts(base())...)
	index, filter := right.index(), right.filter
	for _, gap := range [][]byte{{0}, {0, 0, 0, 0}, []byte("between"), summed(nil), right.blocks} {
		for i := range right.lines {
			d := right
			at := right.lines[i].place
			d.blocks = join(right.blocks[:at], gap, right.blocks[at:])
			for j := i; j < len(d.lines); j++ {
				d = d.withLine(j, func(x *line) { x.place += uint64(len(gap)) })
			}
			wantRefused(t, fmt.Sprint("ahead of block ", i), d.bytes(), api.ErrForm)
		}
		d := right
		d.blocks = join(right.blocks, gap)
		wantRefused(t, "ahead of the index", d.bytes(), api.ErrForm)
		place, more := uint32(len(right.blocks)), uint32(len(gap))
		length := uint32(len(index))
		body := join(right.blocks, summed(index), gap, summed(filter))
		wantRefused(t, "ahead of the filter", withFoot(body, place, length, place+length+4+more, uint32(len(filter)), right.count), api.ErrForm)
		body = join(right.blocks, summed(index), summed(filter), gap)
		wantRefused(t, "ahead of the foot", withFoot(body, place, length, place+length+4, uint32(len(filter)), right.count), api.ErrForm)
	}
	place := uint32(len(right.blocks))
	body := join(right.blocks, summed(filter), summed(index))
	behind := place + uint32(len(filter)) + 4
	wantRefused(t, "the filter ahead of the index", withFoot(body, behind, uint32(len(index)), place, uint32(len(filter)), right.count), api.ErrForm)
	// The index's blocks must stand ahead of it.
	body = join(summed(index), right.blocks, summed(filter))
	wantRefused(t, "the index at first", withFoot(body, 0, uint32(len(index)), uint32(len(index))+4+place, uint32(len(filter)), right.count), api.ErrForm)
}

// P12.2: which error is told where more than one is there.
func TestOpenFirstError(t *testing.T) {
	l := base()
	right := draftOf(cuts(l)...)
	index := right.index()
	blocks, lasts := blocksIn(l)
	last := len(blocks) - 1
	tail := "/ 00 00 00 00 / 00 00 00 01"
	short, long, form := unhex(t, "00 05 61"+tail), unhex(t, "00 81 04 61"+tail), unhex(t, "00 01 61 01 02"+tail)
	with := func(at map[int][]byte) draft {
		other := slices.Clone(blocks)
		for i, b := range at {
			other[i] = b
		}
		return right.laid(other, lasts)
	}
	spoilSum := func(d draft, i int) draft {
		d.blocks = changed(d.blocks, int(d.lines[i].place+d.lines[i].length), 1)
		return d
	}
	cutIndex := index[:len(index)-1]
	badIndex := right.withIndex(cutIndex)
	filterSum := len(badIndex) - 33
	wrongCount := with(map[int][]byte{last: long})
	wrongCount.count++
	for _, c := range []struct {
		name string
		b    []byte
		want api.Errno
	}{
		{"the filter's sum ahead of the index's form", changed(badIndex, filterSum, 1), api.ErrSum},
		{"the filter's sum ahead of a block's error", changed(with(map[int][]byte{0: long}).bytes(), len(with(map[int][]byte{0: long}).bytes())-33, 1), api.ErrSum},
		{"the index's form ahead of a block's sum", spoilSum(right, 0).withIndex(cutIndex), api.ErrForm},
		{"a key of no bytes ahead of a block's sum", spoilSum(right, 0).withLine(last, func(x *line) { x.last = nil }).bytes(), api.ErrForm},
		{"a place past the index ahead of a block's sum", spoilSum(right, 0).withLine(last, func(x *line) { x.place++ }).bytes(), api.ErrForm},
		{"the index's form ahead of a block's error", with(map[int][]byte{0: long}).withIndex(with(map[int][]byte{0: long}).index()[:7]), api.ErrForm},
		{"a later block's sum ahead of a block's error", spoilSum(with(map[int][]byte{0: long}), last).bytes(), api.ErrSum},
		{"a block's sum and its error", spoilSum(with(map[int][]byte{1: long}), 1).bytes(), api.ErrSum},
		{"the first block's error: long", with(map[int][]byte{0: long, 1: short, last: form}).bytes(), api.ErrLong},
		{"the first block's error: short", with(map[int][]byte{0: short, 1: long, last: form}).bytes(), api.ErrShort},
		{"the first block's error: form", with(map[int][]byte{1: form, last: long}).bytes(), api.ErrForm},
		{"a block's error ahead of the number", wrongCount.bytes(), api.ErrLong},
		{"a block's sum ahead of the number", spoilSum(wrongCount, 0).bytes(), api.ErrSum},
		{"a block's error ahead of the order", with(map[int][]byte{0: blocks[1], last: short}).bytes(), api.ErrShort},
		{"another key ahead of nothing", spoilSum(right, last).withLine(0, func(x *line) { x.last = []byte("z") }).bytes(), api.ErrSum},
	} {
		wantRefused(t, c.name, c.b, c.want)
	}
	// More entries than a table may have, and an error of the block behind them.
	crowd := draftOf(cuts(many(4100))...)
	crowd.add([]byte("z"), long)
	wantRefused(t, "a block's error ahead of too many", crowd.bytes(), api.ErrLong)
}

// P12.2, R3: an index that names a great block as often as it can ends soon, whether or not the block is one.
func TestOpenSameBlockManyTimes(t *testing.T) {
	var heavy []api.Entry
	for i := range 400 {
		heavy = append(heavy, put(fmt.Sprintf("%04d", i), 1, 0, strings.Repeat("h", 2048)))
	}
	b, _ := block.Encode(heavy)
	var d draft
	d.add([]byte("0399"), b)
	d.add([]byte("0399"), b[:len(b)-1])
	d.filter = make([]byte, 8)
	for i, x := range d.lines {
		index := bytes.Repeat(x.bytes(), 300000)
		if got, errno := table.Open(d.withIndex(index)); got != nil || errno != api.ErrForm {
			t.Errorf("block %d: %d", i, errno)
		}
	}
}

// P12.2, P12.4: parts of tables with faults of all kinds, sums right again: the chapter's words tell the same.
func TestOpenAsTheWordsSay(t *testing.T) {
	random := rand.New(rand.NewSource(12))
	told := map[api.Errno]int{}
	lists := small()
	for range 20000 {
		l := lists[random.Intn(len(lists))]
		b := faulty(random, draftOf(cuts(l)...))
		if random.Intn(40) == 0 {
			b = changed(b, random.Intn(len(b)), byte(1+random.Intn(255)))
		}
		want, words := opened(b)
		x, errno := table.Open(b)
		if errno != words || (x != nil) != (errno == api.OK) || !same(x.All(), want) {
			t.Fatalf("Open(%x) = %d, not %d", b, errno, words)
		}
		told[errno]++
	}
	for _, errno := range []api.Errno{api.OK, api.ErrForm, api.ErrSum, api.ErrShort, api.ErrLong} {
		if told[errno] < 20 {
			t.Errorf("the error %d was told %d times", errno, told[errno])
		}
	}
}

// faulty is the draft's bytes with up to two faults.
func faulty(random *rand.Rand, d draft) []byte {
	index := d.index()
	body := func() []byte { return d.withIndex(index) }
	for range random.Intn(3) {
		i := random.Intn(len(d.lines))
		x := d.lines[i]
		nudge := uint64(random.Intn(9) - 4)
		switch random.Intn(8) {
		case 0:
			index = d.withLine(i, func(x *line) { x.place += nudge }).index()
		case 1:
			index = d.withLine(i, func(x *line) { x.length += nudge }).index()
		case 2:
			index = changed(index, random.Intn(len(index)), byte(random.Intn(256)))
		case 3, 4:
			b := changed(d.blocks[x.place:x.place+x.length], random.Intn(int(x.length)), byte(1<<random.Intn(8)))
			d.blocks = join(d.blocks[:x.place], summed(b), d.blocks[x.place+x.length+4:])
		case 5:
			d.count += uint32(nudge)
		case 6:
			d.filter = changed(d.filter, random.Intn(len(d.filter)), byte(random.Intn(2)))
		case 7:
			b := body()
			numbers := numbersIn(b)
			numbers[random.Intn(5)] += uint32(nudge)
			return withFoot(bodyOf(b), numbers[:]...)
		}
	}
	return body()
}

// P12.4: cut off at every place, from either end, and with every single byte as another one.
func TestOpenCutOrChanged(t *testing.T) {
	for _, l := range small() {
		whole := build(t, l)
		for i := range whole {
			if x, errno := table.Open(whole[:i]); x != nil || errno == api.OK {
				t.Errorf("%s: the first %d bytes: %d", show(l), i, errno)
			}
			if x, errno := table.Open(whole[i+1:]); x != nil || errno == api.OK {
				t.Errorf("%s: without the first %d bytes: %d", show(l), i+1, errno)
			}
			if x, errno := table.Open(changed(whole, i, byte(1+i%255))); x != nil || errno == api.OK {
				t.Errorf("%s: the byte %d: %d", show(l), i, errno)
			}
		}
	}
	whole := build(t, of(put("ab", 3, 0, "x"), away("abc", 2)))
	for i := range whole {
		for by := 1; by < 256; by++ {
			if x, errno := table.Open(changed(whole, i, byte(by))); x != nil || errno == api.OK {
				t.Errorf("the byte %d by %d: %d", i, by, errno)
			}
		}
	}
}

// FuzzOpen: of any bytes, with the foot's sum right or not, what the chapter's words tell.
func FuzzOpen(f *testing.F) {
	for _, l := range small() {
		f.Add(bytesOf(l), true)
	}
	f.Fuzz(func(t *testing.T, b []byte, seal bool) {
		if seal && len(b) >= 32 {
			numbers := numbersIn(b)
			b = withFoot(bodyOf(b), numbers[:]...)
		}
		want, words := opened(b)
		x, errno := table.Open(b)
		if errno != words || !same(x.All(), want) {
			t.Errorf("Open(%x) = %d, not %d", b, errno, words)
		}
	})
}
