package wal_test

import (
	"bytes"
	"fmt"
	"slices"
	"strings"
	"testing"

	"halyard/api"
	"halyard/disk"
	"halyard/wal"
)

func wantNotOpened(t *testing.T, what string, d *disk.Disk, name string, want api.Errno) {
	t.Helper()
	l, row, errno := wal.Open(d, name)
	if l != nil || len(row) != 0 || errno != want {
		t.Errorf("%s: Open(%.10q) = %v, %s, %d, not %d", what, name, l, show(row), errno, want)
	}
}

func TestOpenErrors(t *testing.T) {
	d, _ := logOf(t, inRow(1, 2)...)
	for _, other := range []string{"", "x", "W", "w ", "ww", "/", "\x00", strings.Repeat("n", 64), strings.Repeat("n", 65)} {
		untouched(t, "Open", d, func() { wantNotOpened(t, "not there", d, other, api.ErrNone) })
	}
	d.Fuse(1)
	d.SyncDir()
	wantNotOpened(t, "the power is gone", d, name, api.ErrDown)
	wantNotOpened(t, "the power is gone", d, "x", api.ErrDown)
	d.Crash(nil)
	wantOpened(t, "the power is back", d, inRow(1, 2))
	wantNotOpened(t, "an empty disk", disk.New(roomy), name, api.ErrNone)
	wantNotOpened(t, "a disk that New did not make", &disk.Disk{}, name, api.ErrNone)
}

// Open calls nothing that changes, so that neither a fault nor a fuse touches it.
func TestOpenIsNoChange(t *testing.T) {
	row := inRow(1, 2, 3)
	d, _ := logOf(t, row...)
	d.Fault(1, 1)
	wantOpened(t, "a fault is set", d, row)
	wantErrno(t, "the fault is still set", d.SyncDir(), api.ErrIO)
	d.Fuse(1)
	wantOpened(t, "a fuse is set", d, row)
	wantErrno(t, "the fuse is still set", d.SyncDir(), api.ErrDown)
}

// A file that another hand laid there is a log as well.
func TestOpenOfFramesLaidByHand(t *testing.T) {
	for _, row := range rows() {
		d := diskOf(t, framesOf(row...))
		l := wantOpened(t, show(row), d, row)
		if lastOf(row) < bound-1 {
			wantGoesOn(t, show(row), d, l, row)
		}
	}
}

// P13.1: opened whole, it goes on; again and again.
func TestOpenGoesOn(t *testing.T) {
	d, _ := logOf(t)
	row := inRow(3, 1, 400, 2, 1, 5)
	for i, b := range row {
		what := fmt.Sprintf("the batch %d", i)
		l := wantOpened(t, what, d, row[:i])
		wantErrno(t, what, l.Append(b), api.OK)
		wantRow(t, what, l, row[:i+1])
		for _, seq := range []int64{b.Seq, lastOf(row[:i+1]), lastOf(row[:i+1]) + 2} {
			wantErrno(t, what+": out of order", l.Append(some(seq, 1)), orderOr(seq, lastOf(row[:i+1])))
		}
	}
	wantFile(t, "all", d, framesOf(row...))
	wantOpened(t, "all", d, row)
}

func orderOr(seq, last int64) api.Errno {
	if seq == last+1 {
		return api.OK
	}
	return api.ErrOrder
}

// The order goes on from what is told, also of a log that was opened.
func TestOpenThenWrongBatches(t *testing.T) {
	row := inRow(7, 2, 2)
	d, _ := logOf(t, row...)
	l := wantOpened(t, "opened", d, row)
	untouched(t, "wrong ones", d, func() {
		for _, seq := range []int64{1, 7, 9, 10, 12, bound} {
			wantErrno(t, fmt.Sprint("Append at ", seq), l.Append(some(seq, 1)), api.ErrOrder)
		}
		for i, b := range wrong(11) {
			wantErrno(t, fmt.Sprint("the wrong one ", i), l.Append(b), api.ErrArg)
		}
	})
	wantGoesOn(t, "behind wrong ones", d, l, row)

	empty, _ := logOf(t)
	m := wantOpened(t, "empty", empty, nil)
	wantErrno(t, "any Seq behind nothing", m.Append(some(77, 2)), api.OK)
	wantRow(t, "any Seq behind nothing", m, inRow(77, 2))
}

// wantTorn asks that the file is told up to what is not, and stays as it is.
func wantTorn(t *testing.T, what string, b []byte, row []api.Batch) {
	t.Helper()
	d := diskOf(t, b)
	l := wantOpened(t, what, d, row)
	wantShut(t, what, d, l, row, api.ErrState)
	wantFile(t, what, d, b)
	wantOpened(t, what+", again", d, row)
}

// P13.1, P13.2: the errors that Append's own sentence lists come ahead of the one that it does not list.
func TestTheFirstErrorOfATornLog(t *testing.T) {
	for _, row := range [][]api.Batch{nil, inRow(3, 2, 1)} {
		d := diskOf(t, join(framesOf(row...), []byte("torn")))
		wantFirstErrors(t, "torn", d, wantOpened(t, "torn", d, row), row, api.ErrState)
		d.Fault(1, 9)
		wantFirstErrors(t, "torn, the disk fails", d, wantOpened(t, "torn", d, row), row, api.ErrState)
		d.Fuse(1)
		l := wantOpened(t, "torn", d, row)
		d.SyncDir()
		wantFirstErrors(t, "torn, the power is gone", d, l, row, api.ErrState)
	}
}

// P13.4: the last record cut off at every place.
func TestOpenCutAnywhere(t *testing.T) {
	row := inRow(1, 2, 1, 5)
	whole := framesOf(row...)
	for n := range len(whole) + 1 {
		kept := 0
		for kept < len(row) && len(framesOf(row[:kept+1]...)) <= n {
			kept++
		}
		what := fmt.Sprintf("%d bytes of %d", n, len(whole))
		if len(framesOf(row[:kept]...)) < n {
			wantTorn(t, what, whole[:n], row[:kept])
			continue
		}
		d := diskOf(t, whole[:n])
		wantGoesOn(t, what, d, wantOpened(t, what, d, row[:kept]), row[:kept])
	}
}

// Each byte as another one, of each record: what stands ahead of that record is told.
func TestOpenWithAByteChanged(t *testing.T) {
	row := inRow(1, 2, 1, 3)
	whole := framesOf(row...)
	for at := range whole {
		ahead := 0
		for len(framesOf(row[:ahead+1]...)) <= at {
			ahead++
		}
		for _, by := range []byte{1, 2, 4, 8, 16, 32, 64, 128, 255, byte(at*7 + 3)} {
			if by == 0 {
				continue
			}
			b := bytes.Clone(whole)
			b[at] ^= by
			wantTorn(t, fmt.Sprintf("the byte %d by %d", at, by), b, row[:ahead])
		}
	}
}

// The same by Spoil, each byte of the last record as each other one.
func TestOpenOfASpoiledRecord(t *testing.T) {
	row := inRow(9, 1, 2)
	d, _ := logOf(t, row...)
	whole := framesOf(row...)
	for at := len(frameOf(row[0])); at < len(whole); at++ {
		for with := range 256 {
			d.Spoil(name, at, byte(with))
			l, told, errno := wal.Open(d, name)
			want, answer := row[:1], api.ErrState
			if whole[at] == byte(with) {
				want, answer = row, api.ErrOrder
			}
			if errno != api.OK || !same(told, want) || l.Append(some(10, 1)) != answer {
				t.Errorf("the byte %d as %d: %s, %d", at, with, show(told), errno)
			}
		}
		d.Spoil(name, at, whole[at])
	}
	wantFile(t, "as before", d, whole)
}

// behind are bytes that are no frame, or one of no batch that may stand there, behind a log whose last change is last (more than 1, below the bound).
func behind(last int64) map[string][]byte {
	next := some(last+1, 2)
	record := recordOf(next)
	long := append([]byte{0x80 | byte(len(record)), 0}, record...)
	all := map[string][]byte{
		"a byte":                     {7},
		"a byte of 0":                {0},
		"three bytes":                {1, 2, 3},
		"four bytes of 0":            make([]byte, 4),
		"many bytes of 0":            make([]byte, 600),
		"many bytes of ff":           bytes.Repeat([]byte{0xff}, 600),
		"a text":                     []byte("torn"),
		"a record without its frame": record,
		"a frame without its sum":    frameOf(next)[4:],
		"another sum":                join([]byte{1, 2, 3, 4}, frameOf(next)[4:]),
		"a sum that is not masked":   join(u32(plainSum(frameOf(next)[4:])), frameOf(next)[4:]),
		"a needless byte of length":  join(masked(plainSum(long)), long),
		"a record of nothing":        framed(nil),
		"a record of a text":         framed([]byte("some text")),
		"a batch cut off":            framed(record[:len(record)-1]),
		"a batch and a byte":         framed(join(record, []byte{0})),
		"two batches in one":         framed(join(record, recordOf(some(last+3, 1)))),
		"a frame in a frame":         framed(frameOf(next)),
		"a batch of no changes":      frameOf(some(last+1, 0)),
		"a batch of 401 changes":     frameOf(some(last+1, 401)),
		"a record of 1048576 bytes":  framed(make([]byte, 1<<20)),
		"a record of 1048577 bytes":  framed(make([]byte, 1<<20+1)),
	}
	for i, b := range wrong(last + 1) {
		if !hasNoBytes(b) {
			all[fmt.Sprintf("the wrong batch %d", i)] = frameOf(b)
		}
	}
	for _, seq := range []int64{0, 1, last - 1, last, last + 2, last + 3, bound, bound + 1, -1} {
		all[fmt.Sprintf("the Seq %d", seq)] = frameOf(some(seq, 1))
	}
	return all
}

// hasNoBytes is true of a batch with something Gone that has an Until or a value: no bytes say so.
func hasNoBytes(b api.Batch) bool {
	return slices.ContainsFunc(b.Ops, func(op api.Op) bool { return op.Gone && (op.Until != 0 || len(op.Value) > 0) })
}

func TestOpenWithSomethingBehind(t *testing.T) {
	for _, row := range [][]api.Batch{inRow(1, 3), inRow(5, 1, 2, 1)} {
		last := lastOf(row)
		for what, b := range behind(last) {
			whole := join(framesOf(row...), b)
			wantTorn(t, what, whole, row)
			// What stands behind is never read, be it the next by the last one told, or by the one that was not.
			for _, next := range []int64{last + 1, last + 2, last + 3} {
				wantTorn(t, fmt.Sprint(what, ", and the batch ", next), join(whole, framesOf(inRow(next, 1, 1)...)), row)
			}
		}
	}
}

// The first record is asked like the others, but for its Seq.
func TestOpenOfAWrongFirstRecord(t *testing.T) {
	for what, b := range behind(8) {
		if strings.HasPrefix(what, "the Seq ") {
			continue
		}
		wantTorn(t, what, b, nil)
		wantTorn(t, what+", and more", join(b, framesOf(inRow(9, 1, 1)...)), nil)
	}
	for _, seq := range []int64{0, -1, bound + 1} {
		wantTorn(t, fmt.Sprint("the Seq ", seq), framesOf(some(seq, 1), some(seq+1, 1)), nil)
	}
	for _, seq := range []int64{1, 2, 7, bound - 1, bound} {
		wantOpened(t, fmt.Sprint("the Seq ", seq), diskOf(t, framesOf(some(seq, 1))), inRow(seq, 1))
	}
}

// Behind the greatest number there is no next one.
func TestOpenBehindTheGreatestNumber(t *testing.T) {
	row := inRow(bound-2, 1, 2)
	for _, seq := range []int64{1, bound - 1, bound, bound + 1, 0} {
		d := diskOf(t, framesOf(append(slices.Clone(row), some(seq, 1))...))
		l := wantOpened(t, fmt.Sprint("the Seq ", seq), d, row)
		wantErrno(t, "Append above", l.Append(some(bound+1, 1)), api.ErrArg)
		wantErrno(t, "Append of the same", l.Append(some(bound, 1)), api.ErrOrder)
	}
}

// P13.1: all short rows of parts that are the next batch, or are not.
func TestAllShortRowsOfParts(t *testing.T) {
	parts := map[byte]func(last int64) []byte{
		'n': func(last int64) []byte { return frameOf(some(last+1, 1)) },
		'm': func(last int64) []byte { return frameOf(some(last+1, 3)) },
		's': func(last int64) []byte { return frameOf(some(max(last, 1), 1)) },
		'o': func(last int64) []byte { return frameOf(some(last+2, 1)) },
		'e': func(last int64) []byte { return framed(nil) },
		'b': func(last int64) []byte { return frameOf(some(last+1, 0)) },
		't': func(last int64) []byte { return []byte{0} },
	}
	var try func(word string)
	try = func(word string) {
		var whole []byte
		var last int64
		for _, c := range []byte(word) {
			whole = append(whole, parts[c](last)...)
			switch c {
			case 'n':
				last++
			case 'm':
				last += 3
			}
		}
		want, size := told(whole)
		d := diskOf(t, whole)
		l := wantOpened(t, word, d, want)
		answer := api.OK
		if size < len(whole) {
			answer = api.ErrState
		}
		wantErrno(t, word+": Append", l.Append(some(lastOf(want)+1, 1)), answer)
		if len(word) < 4 {
			for c := range parts {
				try(word + string([]byte{c}))
			}
		}
	}
	try("")
}
