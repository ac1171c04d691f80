package table_test

import (
	"bytes"
	"encoding/binary"
	"hash/crc32"
	"math/bits"
	"strings"

	"halyard/api"
	"halyard/block"
	"halyard/bloom"
)

// The chapter's own words, to hold the package against. (Blocks and filters are those of their packages, which have tests of their own.)

const (
	bound   = 1 << 62
	mark    = "halyard1"
	maxFile = 4194304
)

func join(parts ...[]byte) []byte { return bytes.Join(parts, nil) }

func uvarint(n uint64) []byte { return binary.AppendUvarint(nil, n) }

func u32(n uint32) []byte { return binary.BigEndian.AppendUint32(nil, n) }

func masked(b []byte) uint32 {
	sum := crc32.Checksum(b, crc32.MakeTable(crc32.Castagnoli))
	return (sum>>15 | sum<<17) + 0xa282ead8
}

// summed is the part with its sum behind it.
func summed(part []byte) []byte { return join(part, u32(masked(part))) }

// line is what an index tells of a block.
type line struct {
	last          []byte
	place, length uint64
}

func (x line) bytes() []byte {
	return join(uvarint(uint64(len(x.last))), x.last, uvarint(x.place), uvarint(x.length))
}

// draft is the parts of a table, to be laid down as they are or with a fault.
type draft struct {
	blocks []byte // with their sums
	lines  []line
	filter []byte
	count  uint32
}

// draftOf is the parts of a table with one block for each list of entries.
func draftOf(lists ...[]api.Entry) draft {
	var d draft
	var keys [][]byte
	for _, l := range lists {
		b, _ := block.Encode(l)
		d.add(l[len(l)-1].Key, b)
		for _, e := range l {
			if len(keys) == 0 || !bytes.Equal(keys[len(keys)-1], e.Key) {
				keys = append(keys, e.Key)
			}
		}
		d.count += uint32(len(l))
	}
	d.filter, _ = bloom.Build(keys)
	return d
}

// add lays down one more block, of these bytes.
func (d *draft) add(last, b []byte) {
	d.lines = append(d.lines, line{last, uint64(len(d.blocks)), uint64(len(b))})
	d.blocks = append(d.blocks, summed(b)...)
}

func (d draft) index() []byte {
	var index []byte
	for _, x := range d.lines {
		index = append(index, x.bytes()...)
	}
	return index
}

func (d draft) bytes() []byte { return d.withIndex(d.index()) }

// withIndex is the table's bytes with another index.
func (d draft) withIndex(index []byte) []byte {
	body := join(d.blocks, summed(index), summed(d.filter))
	place := uint32(len(d.blocks))
	length := uint32(len(index))
	return withFoot(body, place, length, place+length+4, uint32(len(d.filter)), d.count)
}

func withFoot(body []byte, numbers ...uint32) []byte {
	var foot []byte
	for _, n := range numbers {
		foot = append(foot, u32(n)...)
	}
	return join(body, summed(foot), []byte(mark))
}

func weight(e api.Entry) int { return len(e.Key) + len(e.Value) + 16 }

// cuts are the entries of each block.
func cuts(l []api.Entry) [][]api.Entry {
	var all [][]api.Entry
	var now []api.Entry
	sum := 0
	for _, e := range l {
		now = append(now, e)
		sum += weight(e)
		if sum >= 256 {
			all = append(all, now)
			now, sum = nil, 0
		}
	}
	if len(now) > 0 {
		all = append(all, now)
	}
	return all
}

func bytesOf(l []api.Entry) []byte { return draftOf(cuts(l)...).bytes() }

func mayBe(e api.Entry) bool {
	if n := len(e.Key); n == 0 || n > 512 {
		return false
	}
	if e.Seq <= 0 || e.Seq > bound || e.Until < 0 || e.Until > bound || len(e.Value) > 2048 {
		return false
	}
	return !e.Gone || e.Until == 0 && len(e.Value) == 0
}

func inOrder(l []api.Entry) bool {
	for i := 1; i < len(l); i++ {
		order := strings.Compare(string(l[i-1].Key), string(l[i].Key))
		if order > 0 || order == 0 && l[i-1].Seq <= l[i].Seq {
			return false
		}
	}
	return true
}

// built is P12.1.
func built(l []api.Entry) ([]byte, api.Errno) {
	if len(l) == 0 || len(l) > 4000 {
		return nil, api.ErrMany
	}
	for _, e := range l {
		if !mayBe(e) {
			return nil, api.ErrArg
		}
	}
	if !inOrder(l) {
		return nil, api.ErrOrder
	}
	b := bytesOf(l)
	if len(b) > maxFile {
		return nil, api.ErrRoom
	}
	return b, api.OK
}

// part is what stands at the place, and its sum; false if they are not all there.
func part(b []byte, place, length uint64) ([]byte, uint32, bool) {
	end, wrapped := bits.Add64(place, length, 0)
	behind, again := bits.Add64(end, 4, 0)
	if wrapped+again > 0 || behind > uint64(len(b)) {
		return nil, 0, false
	}
	return b[place:end], binary.BigEndian.Uint32(b[end:]), true
}

func takeUvarint(b []byte) (uint64, []byte, bool) {
	n, size := binary.Uvarint(b)
	if size <= 0 || size != len(uvarint(n)) {
		return 0, nil, false
	}
	return n, b[size:], true
}

func takeLine(b []byte) (line, []byte, bool) {
	length, rest, good := takeUvarint(b)
	if !good || length == 0 || length > 512 || length > uint64(len(rest)) {
		return line{}, nil, false
	}
	x := line{last: rest[:length]}
	x.place, rest, good = takeUvarint(rest[length:])
	if !good {
		return line{}, nil, false
	}
	x.length, rest, good = takeUvarint(rest)
	return x, rest, good
}

// blocksOf are the blocks of an index, and their sums; ahead are the bytes ahead of it.
func blocksOf(index, ahead []byte) ([][]byte, []uint32, bool) {
	var blocks [][]byte
	var sums []uint32
	for len(index) > 0 {
		x, rest, good := takeLine(index)
		if !good {
			return nil, nil, false
		}
		b, sum, within := part(ahead, x.place, x.length)
		if !within {
			return nil, nil, false
		}
		blocks, sums, index = append(blocks, b), append(sums, sum), rest
	}
	return blocks, sums, true
}

// opened is P12.2: the entries of a table.
func opened(b []byte) ([]api.Entry, api.Errno) {
	if len(b) < 32 {
		return nil, api.ErrShort
	}
	ahead, foot := b[:len(b)-32], b[len(b)-32:]
	if string(foot[24:]) != mark {
		return nil, api.ErrForm
	}
	if binary.BigEndian.Uint32(foot[20:]) != masked(foot[:20]) {
		return nil, api.ErrSum
	}
	var numbers [5]uint64
	for i := range numbers {
		numbers[i] = uint64(binary.BigEndian.Uint32(foot[4*i:]))
	}
	index, indexSum, indexThere := part(ahead, numbers[0], numbers[1])
	filter, filterSum, filterThere := part(ahead, numbers[2], numbers[3])
	if !indexThere || !filterThere {
		return nil, api.ErrForm
	}
	if masked(index) != indexSum || masked(filter) != filterSum {
		return nil, api.ErrSum
	}
	blocks, sums, good := blocksOf(index, b[:numbers[0]])
	if !good {
		return nil, api.ErrForm
	}
	for i := range blocks {
		if masked(blocks[i]) != sums[i] {
			return nil, api.ErrSum
		}
	}
	var all []api.Entry
	for _, each := range blocks {
		l, errno := block.Decode(each)
		if errno != api.OK {
			return nil, errno
		}
		all = append(all, l...)
	}
	again, errno := built(all)
	if errno != api.OK || !bytes.Equal(again, b) {
		return nil, api.ErrForm
	}
	return all, api.OK
}
