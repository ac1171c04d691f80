package wal_test

import (
	"bytes"
	"fmt"
	"math/rand"
	"strings"
	"testing"

	"halyard/api"
	"halyard/batch"
	"halyard/disk"
	"halyard/frame"
	"halyard/wal"
)

// told is what Open tells of a file by P13.1's words, with frame.Scan: the batches, and the bytes of their records.
func told(whole []byte) ([]api.Batch, int) {
	var row []api.Batch
	size := 0
	records, _ := frame.Scan(whole)
	for _, r := range records {
		b, errno := batch.Decode(r)
		if errno != api.OK || len(row) > 0 && b.Seq != lastOf(row)+1 {
			break
		}
		row = append(row, b)
		size += 4 + len(uvarint(len(r))) + len(r)
	}
	return row, size
}

// words is a log by the chapter's words, which does its calls on a disk of its own.
type words struct {
	d      *disk.Disk
	row    []api.Batch
	size   int
	torn   bool
	failed bool
}

func (w *words) append(b api.Batch) api.Errno {
	if batch.May(b) != api.OK {
		return api.ErrArg
	}
	if len(w.row) > 0 && b.Seq != lastOf(w.row)+1 {
		return api.ErrOrder
	}
	if w.torn {
		return api.ErrState
	}
	if w.failed {
		return api.ErrReadOnly
	}
	f := frameOf(b)
	errno := w.d.Append(name, f)
	if errno == api.OK {
		errno = w.d.Sync(name)
	}
	if errno != api.OK {
		w.failed = true
		return errno
	}
	w.row = append(w.row, b)
	w.size += len(f)
	return api.OK
}

// pair is a log and its words, each on a disk of its own to which the same is done.
type pair struct {
	d *disk.Disk
	l *wal.Log
	w *words
}

func newPair(room int64) *pair {
	return &pair{d: disk.New(room), w: &words{d: disk.New(room)}}
}

func (p *pair) create() (got, want api.Errno) {
	l, got := wal.Create(p.d, name)
	if want = p.w.d.Create(name); want == api.OK {
		want = p.w.d.SyncDir()
	}
	if got == api.OK && want == api.OK {
		p.l, p.w = l, &words{d: p.w.d}
	}
	return got, want
}

func (p *pair) open() (got, want api.Errno) {
	l, row, got := wal.Open(p.d, name)
	b, want := p.w.d.Read(name)
	if got != want || got != api.OK {
		return got, want
	}
	w := &words{d: p.w.d}
	w.row, w.size = told(b)
	w.torn = w.size < len(b)
	if !same(row, w.row) {
		return -1, want
	}
	p.l, p.w = l, w
	return got, want
}

func (p *pair) append(b api.Batch) (got, want api.Errno) {
	if p.l == nil {
		return p.l.Append(b), api.ErrArg
	}
	return p.l.Append(b), p.w.append(b)
}

// both does the same to both disks.
func (p *pair) both(do func(d *disk.Disk)) {
	do(p.d)
	do(p.w.d)
}

// differ says where the two tell unlike things.
func (p *pair) differ() string {
	if p.d.Calls() != p.w.d.Calls() {
		return fmt.Sprint("calls: ", p.d.Calls(), " ", p.w.d.Calls())
	}
	if a, b := look(p.d), look(p.w.d); a != b {
		return fmt.Sprint("disks: ", a, "\n", b)
	}
	if p.l != nil && (p.l.Name() != name || p.l.Last() != lastOf(p.w.row) || p.l.Size() != p.w.size) {
		return fmt.Sprint("logs: ", p.l.Name(), " ", p.l.Last(), " ", p.l.Size(), ", not ", lastOf(p.w.row), " ", p.w.size)
	}
	return ""
}

func randomBatch(r *rand.Rand, last int64) api.Batch {
	switch r.Intn(12) {
	case 0:
		l := wrong(last + 1)
		return l[r.Intn(len(l))]
	case 1:
		return some(last+int64(r.Intn(4))-1, 1)
	}
	return some(last+1, 1+r.Intn(4))
}

// step does one thing to both.
func (p *pair) step(r *rand.Rand) (what string, got, want api.Errno) {
	n, count := int64(r.Intn(6)), int64(r.Intn(3))
	switch r.Intn(24) {
	case 0, 1:
		got, want = p.create()
		return "Create", got, want
	case 2, 3, 4, 5:
		got, want = p.open()
		return "Open", got, want
	case 6:
		p.both(func(d *disk.Disk) { d.Fuse(n) })
		return fmt.Sprintf("Fuse(%d)", n), 0, 0
	case 7:
		p.both(func(d *disk.Disk) { d.Fault(n, count) })
		return fmt.Sprintf("Fault(%d, %d)", n, count), 0, 0
	case 8, 9:
		picks := []int{r.Intn(2), r.Intn(60)}
		p.both(func(d *disk.Disk) { d.Crash(picks) })
		return fmt.Sprintf("Crash(%d)", picks), 0, 0
	case 10:
		at, with := r.Intn(100), byte(r.Intn(256))
		p.both(func(d *disk.Disk) { d.Spoil(name, at, with) })
		return fmt.Sprintf("Spoil(%d, %d)", at, with), 0, 0
	case 11:
		junk := []byte("torn")[:r.Intn(4)]
		p.both(func(d *disk.Disk) { d.Append(name, junk) })
		return fmt.Sprintf("Append(%q)", junk), 0, 0
	case 12:
		p.both(func(d *disk.Disk) { d.Remove(name) })
		return "Remove", 0, 0
	}
	b := randomBatch(r, lastOf(p.w.row))
	got, want = p.append(b)
	return fmt.Sprintf("Append(%d: %d)", b.Seq, len(b.Ops)), got, want
}

// TestLogIsItsWords: all promises at once, in scripts of any calls.
func TestLogIsItsWords(t *testing.T) {
	for seed := range int64(1000) {
		r := rand.New(rand.NewSource(seed))
		p := newPair(int64(r.Intn(600)))
		script := []string{"Create"}
		p.create()
		for range 40 {
			what, got, want := p.step(r)
			script = append(script, what)
			if diff := p.differ(); got != want || diff != "" {
				t.Fatalf("%d: %s = %d, not %d; %s", seed, strings.Join(script, ", "), got, want, diff)
			}
		}
	}
}

// wantAnyFile asks of a file with any bytes what P13.1's words say, and that what is told is just the beginning of the file.
func wantAnyFile(t *testing.T, b []byte) {
	t.Helper()
	d := diskOf(t, b)
	l, row, errno := wal.Open(d, name)
	want, size := told(b)
	if errno != api.OK || !same(row, want) || l.Last() != lastOf(want) || l.Size() != size {
		t.Fatalf("Open of %x: %s, %d, not %s", b, show(row), errno, show(want))
	}
	if !bytes.Equal(framesOf(row...), b[:size]) {
		t.Errorf("Open of %x: its first %d bytes are not those of %s", b, size, show(row))
	}
	answer := api.OK
	if size < len(b) {
		answer = api.ErrState
	}
	if lastOf(want) < bound {
		wantErrno(t, fmt.Sprintf("%x: Append", b), l.Append(some(lastOf(want)+1, 1)), answer)
	}
}

// Files in which parts were changed, left out, doubled or put in another place.
func TestFilesWithFaults(t *testing.T) {
	r := rand.New(rand.NewSource(1))
	for range 20000 {
		var parts [][]byte
		seq := int64(1 + r.Intn(200))
		for range r.Intn(6) {
			b := some(seq, 1+r.Intn(4))
			parts = append(parts, frameOf(b))
			seq = lastOf([]api.Batch{b}) + 1
		}
		if n := len(parts); n > 0 {
			i, j := r.Intn(n), r.Intn(n)
			switch r.Intn(7) {
			case 0:
				parts[i], parts[j] = parts[j], parts[i]
			case 1:
				parts[i] = parts[j]
			case 2:
				parts[i] = parts[i][:r.Intn(len(parts[i]))]
			case 3:
				parts[i][r.Intn(len(parts[i]))] ^= byte(1 + r.Intn(255))
			case 4:
				// A sound frame of a record that was changed.
				record := bytes.Clone(parts[i][5:])
				record[r.Intn(len(record))] ^= byte(1 << r.Intn(8))
				parts[i] = framed(record)
			case 5:
				parts[i] = nil
			}
		}
		wantAnyFile(t, join(parts...))
	}
}

// FuzzOpen: of any bytes what the chapter's words tell; sound frames are made of the bytes, if seal.
func FuzzOpen(f *testing.F) {
	for _, row := range rows() {
		f.Add(framesOf(row...), false)
		for _, b := range row {
			f.Add(recordOf(b), true)
		}
	}
	f.Fuzz(func(t *testing.T, b []byte, seal bool) {
		if seal {
			b = join(framed(b), framesOf(some(1, 1)))
		}
		if len(b) > api.MaxFile {
			return
		}
		wantAnyFile(t, b)
	})
}
