package wal_test

import (
	"bytes"
	"crypto/sha256"
	"encoding/binary"
	"fmt"
	"hash/crc32"
	"math/bits"
	"slices"
	"strings"
	"testing"

	"halyard/api"
	"halyard/disk"
	"halyard/wal"
)

const (
	name  = "w"
	roomy = 1 << 30
	bound = 1 << 62 // the greatest number of a change
)

func put(key string, until int64, value string) api.Op {
	return api.Op{Key: []byte(key), Until: until, Value: []byte(value)}
}

func away(key string) api.Op { return api.Op{Key: []byte(key), Gone: true} }

func of(seq int64, ops ...api.Op) api.Batch { return api.Batch{Seq: seq, Ops: ops} }

// some is a batch of n changes, put and taken away.
func some(seq int64, n int) api.Batch {
	b := api.Batch{Seq: seq}
	for i := range n {
		op := put(fmt.Sprintf("k%d", i), int64(i%3*200), strings.Repeat("v", i%5))
		if i%4 == 2 {
			op = away(string(op.Key))
		}
		b.Ops = append(b.Ops, op)
	}
	return b
}

// inRow are batches one behind the other, from that number on, of so many changes each.
func inRow(seq int64, counts ...int) []api.Batch {
	var all []api.Batch
	for _, n := range counts {
		all = append(all, some(seq, n))
		seq += int64(n)
	}
	return all
}

// lastOf is the number of the last change of a row.
func lastOf(row []api.Batch) int64 {
	if len(row) == 0 {
		return 0
	}
	b := row[len(row)-1]
	return b.Seq + int64(len(b.Ops)) - 1
}

// greatest is the batch of most bytes that may be.
func greatest() api.Batch {
	b := api.Batch{Seq: bound - 399}
	for range 400 {
		b.Ops = append(b.Ops, put(strings.Repeat("k", 512), bound, strings.Repeat("v", 2048)))
	}
	return b
}

// sized is a batch whose frame has just so many bytes (20000 to 800000).
func sized(seq int64, size int) api.Batch {
	n := size / 2000
	b := api.Batch{Seq: seq}
	for range n {
		b.Ops = append(b.Ops, put("k", 0, strings.Repeat("v", 1900)))
	}
	lacks := size - len(frameOf(b))
	for i := range b.Ops {
		more := lacks / (n - i)
		lacks -= more
		b.Ops[i].Value = bytes.Repeat([]byte("v"), 1900+more)
	}
	if len(frameOf(b)) != size {
		panic(fmt.Sprint("a batch of ", len(frameOf(b)), " bytes, not ", size))
	}
	return b
}

func uvarint(n int) []byte { return binary.AppendUvarint(nil, uint64(n)) }

// recordOf is the bytes of a batch by the words of the batch's chapter, also of one that may not be.
func recordOf(b api.Batch) []byte {
	all := append(binary.AppendUvarint(nil, uint64(b.Seq)), uvarint(len(b.Ops))...)
	for _, op := range b.Ops {
		if op.Gone {
			all = append(all, 1)
			all = append(append(all, uvarint(len(op.Key))...), op.Key...)
			continue
		}
		all = append(all, 0)
		all = append(append(all, uvarint(len(op.Key))...), op.Key...)
		all = binary.AppendUvarint(all, uint64(op.Until))
		all = append(append(all, uvarint(len(op.Value))...), op.Value...)
	}
	return all
}

// framed is the frame of a record by the words of the frame's chapter, with the library's sum.
func framed(record []byte) []byte {
	follows := join(uvarint(len(record)), record)
	return join(masked(plainSum(follows)), follows)
}

func plainSum(b []byte) uint32 {
	return crc32.Checksum(b, crc32.MakeTable(crc32.Castagnoli))
}

func masked(sum uint32) []byte { return u32(bits.RotateLeft32(sum, -15) + 0xa282ead8) }

func u32(n uint32) []byte { return binary.BigEndian.AppendUint32(nil, n) }

func frameOf(b api.Batch) []byte { return framed(recordOf(b)) }

// framesOf are the frames of batches, one behind the other.
func framesOf(row ...api.Batch) []byte {
	var all []byte
	for _, b := range row {
		all = append(all, frameOf(b)...)
	}
	return all
}

func join(parts ...[]byte) []byte { return bytes.Join(parts, nil) }

func sameOp(a, b api.Op) bool {
	return bytes.Equal(a.Key, b.Key) && a.Gone == b.Gone && a.Until == b.Until && bytes.Equal(a.Value, b.Value)
}

func sameBatch(a, b api.Batch) bool {
	return a.Seq == b.Seq && slices.EqualFunc(a.Ops, b.Ops, sameOp)
}

func same(a, b []api.Batch) bool { return slices.EqualFunc(a, b, sameBatch) }

func show(row []api.Batch) string {
	var text strings.Builder
	fmt.Fprintf(&text, "%d batches:", len(row))
	for _, b := range row[:min(len(row), 6)] {
		fmt.Fprintf(&text, " {%d: %d}", b.Seq, len(b.Ops))
	}
	return text.String()
}

// look is all that a disk tells but for the calls, with what would be left of it behind crashes.
func look(d *disk.Disk) string {
	var out strings.Builder
	fmt.Fprint(&out, "down ", d.Down(), files(d))
	for _, picks := range [][]int{nil, {1}, {1, 1, 1}, {1, 1 << 40, 1 << 40}} {
		c := d.Copy()
		c.Crash(picks)
		fmt.Fprint(&out, "; ", picks, files(c))
	}
	return out.String()
}

func files(d *disk.Disk) string {
	var out strings.Builder
	for _, name := range d.List() {
		b, errno := d.Read(name)
		text := fmt.Sprintf("%x", b[:min(len(b), 1000)])
		if len(b) > 1000 {
			text += fmt.Sprintf(" and more, %d bytes with the sum %x", len(b), sha256.Sum256(b))
		}
		fmt.Fprintf(&out, " %q:%d:%s", name, errno, text)
	}
	return out.String()
}

// untouched looks whether nothing is called of the disk that changes it.
func untouched(t *testing.T, what string, d *disk.Disk, do func()) {
	t.Helper()
	calls, before := d.Calls(), look(d)
	do()
	if d.Calls() != calls {
		t.Errorf("%s: %d calls of the disk", what, d.Calls()-calls)
	}
	if after := look(d); after != before {
		t.Errorf("%s: the disk is %.300s, not %.300s", what, after, before)
	}
}

func wantErrno(t *testing.T, what string, got, want api.Errno) {
	t.Helper()
	if got != want {
		t.Errorf("%s = %d, not %d", what, got, want)
	}
}

// wantLog asks what a log tells of itself.
func wantLog(t *testing.T, what string, l *wal.Log, name string, last int64, size int) {
	t.Helper()
	if l.Name() != name || l.Last() != last || l.Size() != size {
		t.Errorf("%s: %q, %d, %d, not %q, %d, %d", what, l.Name(), l.Last(), l.Size(), name, last, size)
	}
}

// wantRow asks wantLog's of a log that holds the row.
func wantRow(t *testing.T, what string, l *wal.Log, row []api.Batch) {
	t.Helper()
	wantLog(t, what, l, name, lastOf(row), len(framesOf(row...)))
}

func wantFile(t *testing.T, what string, d *disk.Disk, want []byte) {
	t.Helper()
	if b, errno := d.Read(name); errno != api.OK || !bytes.Equal(b, want) {
		t.Errorf("%s: the file is %.80x (%d bytes, %d), not %.80x (%d bytes)", what, b, len(b), errno, want, len(want))
	}
}

func create(t *testing.T, d *disk.Disk) *wal.Log {
	t.Helper()
	l, errno := wal.Create(d, name)
	if errno != api.OK || l == nil {
		t.Fatalf("Create(%q) = %v, %d", name, l, errno)
	}
	return l
}

// open is the log of a disk that has one, and its batches.
func open(t *testing.T, what string, d *disk.Disk) (*wal.Log, []api.Batch) {
	t.Helper()
	l, row, errno := wal.Open(d, name)
	if errno != api.OK || l == nil {
		t.Fatalf("%s: Open(%q) = %v, %s, %d", what, name, l, show(row), errno)
	}
	return l, row
}

func mustAppend(t *testing.T, l *wal.Log, row ...api.Batch) {
	t.Helper()
	for _, b := range row {
		if errno := l.Append(b); errno != api.OK {
			t.Fatalf("Append(%s) = %d", show([]api.Batch{b}), errno)
		}
	}
}

// logOf is a new disk with a log of these batches.
func logOf(t *testing.T, row ...api.Batch) (*disk.Disk, *wal.Log) {
	t.Helper()
	d := disk.New(roomy)
	l := create(t, d)
	mustAppend(t, l, row...)
	return d, l
}

// diskOf is a disk with a file of these bytes, all of them sure.
func diskOf(t *testing.T, b []byte) *disk.Disk {
	t.Helper()
	d := disk.New(roomy)
	for _, errno := range []api.Errno{d.Create(name), d.Append(name, b), d.Sync(name), d.SyncDir()} {
		if errno != api.OK {
			t.Fatal(errno)
		}
	}
	return d
}

// wantOpened asks that Open tells the row, touches nothing, and tells the same again.
func wantOpened(t *testing.T, what string, d *disk.Disk, want []api.Batch) *wal.Log {
	t.Helper()
	var l *wal.Log
	untouched(t, what, d, func() {
		var row, again []api.Batch
		l, row = open(t, what, d)
		_, again = open(t, what, d)
		if !same(row, want) || !same(again, want) {
			t.Errorf("%s: tells %s, and %s, not %s", what, show(row), show(again), show(want))
		}
	})
	wantRow(t, what, l, want)
	return l
}

// wantGoesOn asks that a log which holds the row takes the next batch, and tells it.
func wantGoesOn(t *testing.T, what string, d *disk.Disk, l *wal.Log, row []api.Batch) {
	t.Helper()
	next := some(lastOf(row)+1, 2)
	wantErrno(t, what+": the next Append", l.Append(next), api.OK)
	all := append(slices.Clone(row), next)
	wantRow(t, what, l, all)
	wantFile(t, what, d, framesOf(all...))
	wantOpened(t, what, d, all)
}

// wantShut asks that a log which holds the row takes nothing any more.
func wantShut(t *testing.T, what string, d *disk.Disk, l *wal.Log, row []api.Batch, want api.Errno) {
	t.Helper()
	untouched(t, what, d, func() {
		for range 2 {
			wantErrno(t, what+": Append", l.Append(some(lastOf(row)+1, 1)), want)
		}
	})
	wantRow(t, what, l, row)
}
