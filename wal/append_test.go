package wal_test

import (
	"bytes"
	"encoding/hex"
	"fmt"
	"math"
	"slices"
	"strings"
	"testing"

	"halyard/api"
	"halyard/disk"
	"halyard/wal"
)

// P13.2: the chapter's example.
func TestTheExample(t *testing.T) {
	d, l := logOf(t)
	wantErrno(t, "Append(1: 2)", l.Append(some(1, 2)), api.OK)
	wantErrno(t, "Append(3: 1)", l.Append(some(3, 1)), api.OK)
	wantErrno(t, "Append(9: 1)", l.Append(some(9, 1)), api.ErrOrder)
	wantRow(t, "the example", l, inRow(1, 2, 1))
	wantOpened(t, "the example", d, inRow(1, 2, 1))
}

// P13.2: the bytes of the batch chapter's example, in a frame with the library's sum.
func TestTheBytesOfARecord(t *testing.T) {
	d, l := logOf(t, of(5, put("a", 0, "xy"), away("b")))
	record, _ := hex.DecodeString("0c" + "050200016100027879010162")
	b, _ := d.Read(name)
	if len(b) != 17 || !bytes.Equal(b[4:], record) || !bytes.Equal(b, framed(record[1:])) {
		t.Errorf("the file is %x", b)
	}
	wantLog(t, "one record", l, name, 6, 17)
}

// P13.1, P13.3: a log with nothing in it.
func TestCreateIsEmpty(t *testing.T) {
	for _, name := range []string{"w", "x", " ", "\xff\xfe", ".", "000017.log", strings.Repeat("n", 64)} {
		d := disk.New(roomy)
		l, errno := wal.Create(d, name)
		wantErrno(t, "Create", errno, api.OK)
		wantLog(t, "a new log", l, name, 0, 0)
		if d.Calls() != 2 || !slices.Equal(d.List(), []string{name}) || d.Used() != 0 {
			t.Errorf("Create(%q): %d calls, %q, %d bytes", name, d.Calls(), d.List(), d.Used())
		}
		d.Crash(nil)
		if !slices.Equal(d.List(), []string{name}) {
			t.Errorf("Create(%q): the name is not sure", name)
		}
		l, row, errno := wal.Open(d, name)
		if errno != api.OK || len(row) != 0 {
			t.Errorf("Open(%q) = %s, %d", name, show(row), errno)
		}
		wantLog(t, "opened", l, name, 0, 0)
	}
}

func TestCreateOnADiskWithoutRoom(t *testing.T) {
	for _, d := range []*disk.Disk{disk.New(0), disk.New(-1), {}} {
		l := create(t, d)
		wantErrno(t, "Append", l.Append(some(1, 1)), api.ErrRoom)
		wantShut(t, "without room", d, l, nil, api.ErrReadOnly)
		wantOpened(t, "without room", d, nil)
	}
}

func wantNotCreated(t *testing.T, what string, d *disk.Disk, name string, want api.Errno) {
	t.Helper()
	l, errno := wal.Create(d, name)
	if l != nil || errno != want {
		t.Errorf("%s: Create(%.10q) = %v, %d, not %d", what, name, l, errno, want)
	}
}

func TestCreateOfNamesThatMayNotBe(t *testing.T) {
	d := disk.New(roomy)
	for _, name := range []string{"", "/", "a/b", "\x00", "w\x00", strings.Repeat("n", 65)} {
		wantNotCreated(t, "no name", d, name, api.ErrName)
	}
	if len(d.List()) != 0 {
		t.Errorf("there are %q", d.List())
	}
}

func TestCreateOfANameThatIsThere(t *testing.T) {
	row := inRow(4, 1, 2)
	d, l := logOf(t, row...)
	before := look(d)
	wantNotCreated(t, "there", d, name, api.ErrExists)
	if look(d) != before {
		t.Errorf("the disk is %s, not %s", look(d), before)
	}
	wantGoesOn(t, "behind a Create that was refused", d, l, row)

	bare := disk.New(roomy)
	bare.Create(name)
	wantNotCreated(t, "a file that is no log's", bare, name, api.ErrExists)
}

// The directory is not made sure behind a disk.Create that was refused.
func TestCreateStopsAtTheFirstError(t *testing.T) {
	d, _ := logOf(t)
	d.Create("x")
	wantNotCreated(t, "there", d, name, api.ErrExists)
	d.Crash(nil)
	if !slices.Equal(d.List(), []string{name}) {
		t.Errorf("there are %q", d.List())
	}
}

func TestCreateByFaults(t *testing.T) {
	d := disk.New(roomy)
	d.Fault(1, 1)
	wantNotCreated(t, "disk.Create fails", d, name, api.ErrIO)
	if len(d.List()) != 0 || d.Calls() != 1 {
		t.Errorf("there are %q behind %d calls", d.List(), d.Calls())
	}
	create(t, d)
}

// A Create whose SyncDir fails: what disk.Create did stays, as no call is named that would take it back.
func TestCreateWhoseSyncDirFails(t *testing.T) {
	d := disk.New(roomy)
	d.Fault(2, 1)
	wantNotCreated(t, "disk.SyncDir fails", d, name, api.ErrIO)
	if d.Calls() != 2 {
		t.Errorf("%d calls", d.Calls())
	}
	c := d.Copy()
	c.Crash(nil)
	wantNotOpened(t, "the name was not sure", c, name, api.ErrNone)
	create(t, c)

	wantNotCreated(t, "the name is there", d, name, api.ErrExists)
	l := wantOpened(t, "the name is there", d, nil)
	wantGoesOn(t, "the name is there", d, l, nil)
}

func TestCreateWhenThePowerGoes(t *testing.T) {
	for at := int64(1); at <= 2; at++ {
		for pick := range 2 {
			d := disk.New(roomy)
			d.Fuse(at)
			wantNotCreated(t, "the power goes", d, name, api.ErrDown)
			wantNotCreated(t, "the power is gone", d, "other", api.ErrDown)
			wantNotCreated(t, "the power is gone", d, "", api.ErrDown)
			d.Crash([]int{pick})
			if pick == 0 {
				wantNotOpened(t, "the name was lost", d, name, api.ErrNone)
				create(t, d)
				continue
			}
			wantNotCreated(t, "the name was kept", d, name, api.ErrExists)
			l := wantOpened(t, "the name was kept", d, nil)
			wantGoesOn(t, "the name was kept", d, l, nil)
		}
	}
}

func TestANilDisk(t *testing.T) {
	for _, name := range []string{name, "", "a/b"} {
		wantNotCreated(t, "a nil disk", nil, name, api.ErrArg)
		wantNotOpened(t, "a nil disk", nil, name, api.ErrArg)
	}
}

func TestANilLog(t *testing.T) {
	for _, l := range []*wal.Log{nil, {}} {
		for _, b := range []api.Batch{some(1, 1), some(7, 400), some(0, 1), {}} {
			wantErrno(t, "Append", l.Append(b), api.ErrArg)
			wantErrno(t, "Append again", l.Append(b), api.ErrArg)
		}
		wantLog(t, "a nil log", l, "", 0, 0)
	}
}

// P13.2, P13.3: the file is the frames, one behind the other; all of it is sure behind each Append.
func TestAppendStepByStep(t *testing.T) {
	for _, row := range rows() {
		d, l := logOf(t)
		for i, b := range row {
			what := fmt.Sprintf("%s: the batch %d", show(row), i)
			calls := d.Calls()
			wantErrno(t, what, l.Append(b), api.OK)
			wantRow(t, what, l, row[:i+1])
			if d.Calls() != calls+2 {
				t.Errorf("%s: %d calls of the disk", what, d.Calls()-calls)
			}
			c := d.Copy()
			c.Crash(nil)
			wantFile(t, what, c, framesOf(row[:i+1]...))
		}
		wantFile(t, show(row), d, framesOf(row...))
		wantOpened(t, show(row), d, row)
	}
}

// rows are rows of batches that a log may hold, the edges among them.
func rows() [][]api.Batch {
	long := strings.Repeat("k", 512)
	return [][]api.Batch{
		{},
		inRow(1, 1),
		inRow(1, 2, 1),
		inRow(1, 1, 1, 1, 1, 1, 1),
		inRow(7, 3, 1, 5),
		inRow(1, 400),
		inRow(127, 1, 400, 1, 399),
		inRow(1<<32, 2, 2),
		inRow(bound, 1),
		inRow(bound-1, 1, 1),
		inRow(bound-399, 400),
		inRow(bound-400, 1, 400),
		inRow(bound-403, 3, 400, 1),
		{of(9, away("a")), of(10, put("a", bound, "")), of(11, put("\x00", 0, "\x00"), put("\xff", 1, "\xff"))},
		{of(2, put("a", 1, "1"), put("a", 2, "2"), away("a"))},
		{of(1, put(long, 0, strings.Repeat("v", 2048))), of(2, away(long))},
		{{Seq: 3, Ops: []api.Op{{Key: []byte("a")}, {Key: []byte("b"), Value: []byte{}}}}},
	}
}

func TestManyBatches(t *testing.T) {
	var counts []int
	for i := range 3000 {
		counts = append(counts, 1+i%7)
	}
	row := inRow(1, counts...)
	d, l := logOf(t, row...)
	wantRow(t, "many", l, row)
	wantFile(t, "many", d, framesOf(row...))
	m := wantOpened(t, "many", d, row)
	wantGoesOn(t, "many", d, m, row)
}

func TestTheGreatestBatch(t *testing.T) {
	row := []api.Batch{some(bound-400, 1), greatest()}
	d, l := logOf(t, row...)
	wantRow(t, "the greatest batch", l, row)
	wantFile(t, "the greatest batch", d, framesOf(row...))
	wantOpened(t, "the greatest batch", d, row)
}

// The first batch may have any Seq, of which batch.May is OK.
func TestTheFirstSeq(t *testing.T) {
	for _, seq := range []int64{1, 2, 3, 127, 128, 1 << 31, 1 << 32, bound - 3, bound - 2} {
		d, l := logOf(t)
		wantErrno(t, fmt.Sprint("Append at ", seq), l.Append(some(seq, 3)), api.OK)
		wantRow(t, fmt.Sprint("at ", seq), l, inRow(seq, 3))
		wantOpened(t, fmt.Sprint("at ", seq), d, inRow(seq, 3))
	}
	for _, seq := range []int64{0, -1, bound - 1, bound, bound + 1, math.MaxInt64, math.MinInt64} {
		d, l := logOf(t)
		wantErrno(t, fmt.Sprint("Append at ", seq), l.Append(some(seq, 3)), api.ErrArg)
		wantRow(t, fmt.Sprint("at ", seq), l, nil)
		wantGoesOn(t, fmt.Sprint("at ", seq), d, l, nil)
	}
}

func TestTheNextSeq(t *testing.T) {
	for _, row := range [][]api.Batch{inRow(1, 1), inRow(1, 2), inRow(6, 1, 3), inRow(9, 400), inRow(bound-5, 2, 2)} {
		d, l := logOf(t, row...)
		last := lastOf(row)
		for _, seq := range []int64{1, 2, row[0].Seq, last - 1, last, last + 2, last + 3, bound} {
			if seq < 1 || seq == last+1 || seq > bound {
				continue
			}
			what := fmt.Sprintf("%s: Append at %d", show(row), seq)
			untouched(t, what, d, func() { wantErrno(t, what, l.Append(some(seq, 1)), api.ErrOrder) })
			wantRow(t, what, l, row)
		}
		wantErrno(t, show(row)+": Append of the next", l.Append(some(last+1, 1)), api.OK)
	}
}

// Behind the greatest number no batch may be: the next number is one above the bound.
func TestBehindTheGreatestNumber(t *testing.T) {
	row := inRow(bound-1, 2)
	d, l := logOf(t, row...)
	check := func(what string, l *wal.Log) {
		untouched(t, what, d, func() {
			wantErrno(t, what+": above", l.Append(some(bound+1, 1)), api.ErrArg)
			wantErrno(t, what+": the same", l.Append(some(bound, 1)), api.ErrOrder)
			wantErrno(t, what+": the first", l.Append(some(1, 1)), api.ErrOrder)
		})
		wantRow(t, what, l, row)
	}
	check("made", l)
	check("opened", wantOpened(t, "opened", d, row))
}

// wrong are batches that may not be, whatever their Seq is.
func wrong(seq int64) []api.Batch {
	good := put("a", 0, "x")
	return []api.Batch{
		{Seq: seq},
		{Seq: seq, Ops: []api.Op{}},
		some(seq, 401),
		of(seq, api.Op{}),
		of(seq, put("", 0, "x")),
		of(seq, put(strings.Repeat("k", 513), 0, "x")),
		of(seq, put("a", 0, strings.Repeat("v", 2049))),
		of(seq, put("a", -1, "x")),
		of(seq, put("a", bound+1, "x")),
		of(seq, put("a", math.MinInt64, "x")),
		of(seq, api.Op{Key: []byte("a"), Gone: true, Until: 1}),
		of(seq, api.Op{Key: []byte("a"), Gone: true, Value: []byte("x")}),
		of(seq, away("")),
		of(seq, away(strings.Repeat("k", 513))),
		of(seq, good, good, put("", 0, "x")),
		of(seq, good, put("a", 0, strings.Repeat("v", 2049)), good),
	}
}

func TestAppendOfBatchesThatMayNotBe(t *testing.T) {
	for _, row := range [][]api.Batch{nil, inRow(3, 2, 1)} {
		d, l := logOf(t, row...)
		for i, b := range wrong(lastOf(row) + 1) {
			what := fmt.Sprintf("%s: the wrong one %d", show(row), i)
			untouched(t, what, d, func() { wantErrno(t, what, l.Append(b), api.ErrArg) })
			wantRow(t, what, l, row)
		}
		for _, seq := range []int64{0, -1, bound + 1, math.MaxInt64, math.MinInt64} {
			what := fmt.Sprintf("%s: Append at %d", show(row), seq)
			untouched(t, what, d, func() { wantErrno(t, what, l.Append(some(seq, 1)), api.ErrArg) })
			wantRow(t, what, l, row)
		}
		wantGoesOn(t, "behind those that may not be", d, l, row)
	}
}

// wantFirstErrors asks, of a log that takes nothing any more, for the errors that come ahead of that.
func wantFirstErrors(t *testing.T, what string, d *disk.Disk, l *wal.Log, row []api.Batch, shut api.Errno) {
	t.Helper()
	last := lastOf(row)
	untouched(t, what, d, func() {
		for _, seq := range []int64{last, last + 1, last + 2} {
			for _, b := range wrong(max(seq, 1)) {
				wantErrno(t, what+": may not be", l.Append(b), api.ErrArg)
			}
		}
		wantErrno(t, what+": may not be", l.Append(some(0, 1)), api.ErrArg)
		for _, seq := range []int64{last - 1, last, last + 2, last + 100} {
			want := api.ErrOrder
			switch {
			case seq < 1:
				want = api.ErrArg
			case last == 0:
				want = shut
			}
			wantErrno(t, fmt.Sprintf("%s: Append at %d behind %d", what, seq, last), l.Append(some(seq, 1)), want)
		}
	})
	wantShut(t, what, d, l, row, shut)
}

// P13.2: which error is told where more than one applies, on a log that goes on.
func TestTheFirstError(t *testing.T) {
	row := inRow(5, 2, 2)
	d, l := logOf(t, row...)
	for _, seq := range []int64{1, lastOf(row), lastOf(row) + 2, bound} {
		for i, b := range wrong(seq) {
			wantErrno(t, fmt.Sprintf("the wrong one %d, out of order", i), l.Append(b), api.ErrArg)
		}
	}
	untouched(t, "out of order, the disk fails", d, func() {
		d.Fault(1, 1)
		wantErrno(t, "may not be", l.Append(some(lastOf(row)+1, 0)), api.ErrArg)
		wantErrno(t, "out of order", l.Append(some(lastOf(row), 1)), api.ErrOrder)
	})
	wantErrno(t, "the disk fails", l.Append(some(lastOf(row)+1, 1)), api.ErrIO)
	wantFirstErrors(t, "a disk that failed", d, l, row, api.ErrReadOnly)
}

// A batch that was refused ahead of the disk has failed nothing: the log goes on.
func TestRefusalsAreNoFailures(t *testing.T) {
	row := inRow(5, 2)
	d, l := logOf(t, row...)
	l.Append(some(7, 0))
	l.Append(some(9, 1))
	l.Append(some(0, 401))
	wantGoesOn(t, "behind refusals", d, l, row)
}

// P13.2: the power is gone, or goes, at the log's own calls.
func TestAppendWhenThePowerGoes(t *testing.T) {
	for _, row := range [][]api.Batch{nil, inRow(1, 1), inRow(6, 2, 3)} {
		for at := int64(1); at <= 2; at++ {
			d, l := logOf(t, row...)
			d.Fuse(at)
			calls := d.Calls()
			next := some(lastOf(row)+1, 3)
			wantErrno(t, "the power goes", l.Append(next), api.ErrDown)
			if d.Calls() != calls+at {
				t.Errorf("%d calls, not %d", d.Calls()-calls, at)
			}
			wantFirstErrors(t, "the power is gone", d, l, row, api.ErrReadOnly)
			wantNotOpened(t, "the power is gone", d, name, api.ErrDown)
			d.Crash([]int{0, len(frameOf(next))})
			wantFirstErrors(t, "the power is back", d, l, row, api.ErrReadOnly)
			all := append(slices.Clone(row), next)
			m := wantOpened(t, "all was kept", d, all)
			wantGoesOn(t, "all was kept", d, m, all)
			wantShut(t, "the old one", d, l, row, api.ErrReadOnly)
		}
	}
	d, l := logOf(t)
	d.Fuse(1)
	d.SyncDir()
	wantErrno(t, "the power is gone", l.Append(some(1, 1)), api.ErrDown)
	d.Crash(nil)
	wantShut(t, "the power is back", d, l, nil, api.ErrReadOnly)
	wantGoesOn(t, "opened again", d, wantOpened(t, "opened again", d, nil), nil)
}

// P13.2: each call of the disk that fails, by itself and with those behind it.
func TestAppendByFaults(t *testing.T) {
	for _, row := range [][]api.Batch{nil, inRow(1, 1), inRow(6, 2, 3)} {
		for from := int64(1); from <= 2; from++ {
			for count := int64(1); count <= 3; count++ {
				d, l := logOf(t, row...)
				d.Fault(from, count)
				calls := d.Calls()
				next := some(lastOf(row)+1, 3)
				wantErrno(t, "the disk fails", l.Append(next), api.ErrIO)
				if d.Calls() != calls+from {
					t.Errorf("%d calls, not %d", d.Calls()-calls, from)
				}
				wantFirstErrors(t, "a disk that failed", d, l, row, api.ErrReadOnly)
				d.Fault(0, 0)
				wantFirstErrors(t, "the disk works again", d, l, row, api.ErrReadOnly)

				c := d.Copy()
				c.Crash(nil)
				wantGoesOn(t, "behind a crash", c, wantOpened(t, "behind a crash", c, row), row)

				// A failed disk.Append does nothing; a failed disk.Sync leaves the record, though not sure.
				all := slices.Clone(row)
				if from == 2 {
					all = append(all, next)
				}
				m := wantOpened(t, "as it stands", d, all)
				wantGoesOn(t, "as it stands", d, m, all)
				wantShut(t, "the old one", d, l, row, api.ErrReadOnly)
			}
		}
	}
}

// The file is gone: disk's own error is told.
func TestAppendToAFileThatIsGone(t *testing.T) {
	row := inRow(2, 1)
	d, l := logOf(t, row...)
	d.Remove(name)
	calls := d.Calls()
	wantErrno(t, "a file that is gone", l.Append(some(3, 1)), api.ErrNone)
	if d.Calls() != calls+1 {
		t.Errorf("%d calls", d.Calls()-calls)
	}
	wantFirstErrors(t, "a file that is gone", d, l, row, api.ErrReadOnly)
	wantNotOpened(t, "a file that is gone", d, name, api.ErrNone)
}

// full are batches whose frames have just so many bytes.
func full(size int) []api.Batch {
	var row []api.Batch
	seq := int64(1)
	for size > 0 {
		part := size
		if size > 800000 {
			part = min(700000, size-20000)
		}
		b := sized(seq, part)
		row = append(row, b)
		seq += int64(len(b.Ops))
		size -= part
	}
	return row
}

func TestAFileOfMostBytes(t *testing.T) {
	row := full(api.MaxFile)
	d, l := logOf(t, row...)
	wantRow(t, "full", l, row)
	if l.Size() != api.MaxFile {
		t.Errorf("%d bytes", l.Size())
	}
	wantErrno(t, "Append to a full one", l.Append(some(lastOf(row)+1, 1)), api.ErrRoom)
	m, told := open(t, "full", d)
	if !same(told, row) {
		t.Errorf("tells %s", show(told))
	}
	wantErrno(t, "Append to a full one", l.Append(some(lastOf(row)+1, 1)), api.ErrReadOnly)
	wantErrno(t, "Append to a full one, opened", m.Append(some(lastOf(row)+1, 1)), api.ErrRoom)
	wantErrno(t, "Append to a full one, opened", m.Append(some(lastOf(row)+1, 1)), api.ErrReadOnly)
	wantRow(t, "full", l, row)
	wantRow(t, "full, opened", m, row)
}

func TestAFileThatWouldPassMostBytes(t *testing.T) {
	last := some(1, 3)
	row := full(api.MaxFile - len(frameOf(some(1900, 3))) + 1)
	last.Seq = lastOf(row) + 1
	d, l := logOf(t, row...)
	if l.Size()+len(frameOf(last)) != api.MaxFile+1 {
		t.Fatalf("%d and %d bytes", l.Size(), len(frameOf(last)))
	}
	calls := d.Calls()
	wantErrno(t, "one byte too many", l.Append(last), api.ErrRoom)
	if d.Calls() != calls+1 {
		t.Errorf("%d calls", d.Calls()-calls)
	}
	wantErrno(t, "behind it", l.Append(some(last.Seq, 1)), api.ErrReadOnly)
	wantRow(t, "behind it", l, row)
	wantFile(t, "behind it", d, framesOf(row...))

	m, told := open(t, "opened", d)
	if !same(told, row) {
		t.Errorf("tells %s", show(told))
	}
	last.Ops[1].Value = nil
	wantErrno(t, "just as many as may be", m.Append(last), api.OK)
	if m.Size() != api.MaxFile {
		t.Errorf("%d bytes", m.Size())
	}
}

func TestADiskThatIsFull(t *testing.T) {
	row := inRow(1, 2, 3)
	for lack := range 4 {
		d := disk.New(int64(len(framesOf(row...)) - lack))
		l := create(t, d)
		mustAppend(t, l, row[0])
		if lack == 0 {
			mustAppend(t, l, row[1])
			wantErrno(t, "a full disk", l.Append(some(6, 1)), api.ErrRoom)
			wantFirstErrors(t, "a full disk", d, l, row, api.ErrReadOnly)
			wantOpened(t, "a full disk", d, row)
			continue
		}
		wantErrno(t, "a full disk", l.Append(row[1]), api.ErrRoom)
		wantFirstErrors(t, "a full disk", d, l, row[:1], api.ErrReadOnly)
		m := wantOpened(t, "a full disk", d, row[:1])
		wantErrno(t, "a smaller one", m.Append(some(3, 1)), api.OK)
		wantErrno(t, "the old one", l.Append(some(3, 1)), api.ErrReadOnly)
	}
}

func TestTwoLogsOnOneDisk(t *testing.T) {
	d := disk.New(roomy)
	a, _ := wal.Create(d, "a")
	b, _ := wal.Create(d, "b")
	rowA, rowB := inRow(1, 2, 1, 3), inRow(50, 1, 4, 2)
	for i := range rowA {
		mustAppend(t, a, rowA[i])
		mustAppend(t, b, rowB[i])
		wantLog(t, "a", a, "a", lastOf(rowA[:i+1]), len(framesOf(rowA[:i+1]...)))
		wantLog(t, "b", b, "b", lastOf(rowB[:i+1]), len(framesOf(rowB[:i+1]...)))
	}
	d.Crash(nil)
	_, toldA, _ := wal.Open(d, "a")
	_, toldB, _ := wal.Open(d, "b")
	if !same(toldA, rowA) || !same(toldB, rowB) {
		t.Errorf("tell %s and %s", show(toldA), show(toldB))
	}

	d.Fault(1, 1)
	wantErrno(t, "a fails", a.Append(some(7, 1)), api.ErrIO)
	wantErrno(t, "a has failed", a.Append(some(7, 1)), api.ErrReadOnly)
	wantErrno(t, "b goes on", b.Append(some(57, 1)), api.OK)
	d.Append("b", []byte("torn"))
	c, _, _ := wal.Open(d, "a")
	e, _, _ := wal.Open(d, "b")
	wantErrno(t, "b has something behind", e.Append(some(58, 1)), api.ErrState)
	wantErrno(t, "a goes on", c.Append(some(7, 1)), api.OK)
	wantLog(t, "a", c, "a", 7, len(framesOf(rowA...))+len(frameOf(some(7, 1))))
}

func TestLogsOnTwoDisks(t *testing.T) {
	d, l := logOf(t, inRow(1, 2)...)
	e, m := logOf(t, inRow(9, 1)...)
	mustAppend(t, l, some(3, 1))
	mustAppend(t, m, some(10, 2))
	wantOpened(t, "the first", d, inRow(1, 2, 1))
	wantOpened(t, "the second", e, inRow(9, 1, 2))
}
