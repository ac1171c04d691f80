package wal_test

import (
	"fmt"
	"slices"
	"testing"

	"halyard/api"
	"halyard/disk"
	"halyard/wal"
)

// eachCrash tries all crashes that the disk allows, each on a copy of its own.
func eachCrash(d *disk.Disk, try func(what string, c *disk.Disk)) {
	// Used goes on while the power is gone, so it bounds the bytes that are not sure.
	for pick := range 2 {
		for kept := range int(d.Used()) + 1 {
			c := d.Copy()
			picks := []int{pick, kept}
			c.Crash(picks)
			try(fmt.Sprint("Crash", picks), c)
		}
	}
}

// run makes a log (if there is none yet) and appends the batches up to the first that is refused: how many were answered OK.
func run(d *disk.Disk, l *wal.Log, row []api.Batch) (made bool, sure int) {
	if l == nil {
		var errno api.Errno
		l, errno = wal.Create(d, name)
		if errno != api.OK {
			return false, 0
		}
	}
	for i, b := range row {
		if l.Append(b) != api.OK {
			return true, i
		}
	}
	return true, len(row)
}

// wantBehind asks P13.4 of a disk behind a crash: of the row the first sure ones are told, and at most one more.
func wantBehind(t *testing.T, what string, d *disk.Disk, row []api.Batch, made bool, sure int) (*wal.Log, int) {
	t.Helper()
	l, told, errno := wal.Open(d, name)
	if errno == api.ErrNone && !made && l == nil && len(told) == 0 {
		return nil, 0
	}
	if errno != api.OK {
		t.Fatalf("%s: Open = %d", what, errno)
	}
	n := len(told)
	if n < sure || n > min(sure+1, len(row)) || !same(told, row[:n]) {
		t.Fatalf("%s: tells %s, with %d answered OK", what, show(told), sure)
	}
	wantRow(t, what, l, row[:n])
	return l, n
}

// P13.4: the power goes at each call, with each crash that the disk allows; then the log goes on, or takes nothing any more.
func TestThePowerGoesAtEachCall(t *testing.T) {
	row := inRow(5, 1, 3, 2, 6)
	calls := 2 + 2*len(row)
	for at := 1; at <= calls+1; at++ {
		d := disk.New(roomy)
		d.Fuse(int64(at))
		made, sure := run(d, nil, row)
		if made != (at > 2) || sure != max((at-3)/2, 0) || d.Down() != (at <= calls) {
			t.Fatalf("at the call %d: %v, %d answered OK", at, made, sure)
		}
		if d.Down() {
			wantNotOpened(t, "the power is gone", d, name, api.ErrDown)
		}
		whole, torn := 0, 0
		eachCrash(d, func(what string, c *disk.Disk) {
			what = fmt.Sprintf("at the call %d, %s", at, what)
			l, n := wantBehind(t, what, c, row, made, sure)
			if l == nil {
				return
			}
			size, _ := c.Size(name)
			if size > l.Size() {
				torn++
				wantShut(t, what, c, l, row[:n], api.ErrState)
				return
			}
			whole++
			wantGoesOn(t, what, c, l, row[:n])
		})
		// The crash behind disk.Append and ahead of disk.Sync must have been tried with parts of a record.
		if made && at <= calls && (whole == 0 || torn == 0) {
			t.Errorf("at the call %d: %d whole and %d torn", at, whole, torn)
		}
	}
}

// P13.4: again and again: what goes on behind one crash is told behind the next one.
func TestThePowerGoesTwice(t *testing.T) {
	row := inRow(1, 2, 1, 3)
	for at := range 2 + 2*len(row) {
		d := disk.New(roomy)
		d.Fuse(int64(at + 1))
		made, sure := run(d, nil, row)
		eachCrash(d, func(first string, c *disk.Disk) {
			l, n := wantBehind(t, first, c, row, made, sure)
			if size, _ := c.Size(name); l == nil || size > l.Size() {
				return
			}
			for again := 1; again <= 2*(len(row)-n); again++ {
				d := c.Copy()
				l, _, _ := wal.Open(d, name)
				d.Fuse(int64(again))
				_, more := run(d, l, row[n:])
				if more != (again-1)/2 {
					t.Fatalf("%s: %d more answered OK, with a fuse of %d", first, more, again)
				}
				eachCrash(d, func(second string, c *disk.Disk) {
					wantBehind(t, fmt.Sprint(at, first, again, second), c, row, true, n+more)
				})
			}
		})
	}
}

// P13.4: calls that fail, each by itself, and crashes behind them.
func TestEachCallFails(t *testing.T) {
	row := inRow(5, 1, 3, 2)
	for at := 1; at <= 2+2*len(row); at++ {
		d := disk.New(roomy)
		d.Fault(int64(at), 1)
		made, sure := run(d, nil, row)
		if made != (at > 2) || sure != max((at-3)/2, 0) {
			t.Fatalf("the call %d fails: %v, %d answered OK", at, made, sure)
		}
		eachCrash(d, func(what string, c *disk.Disk) {
			wantBehind(t, fmt.Sprintf("the call %d fails, %s", at, what), c, row, made, sure)
		})
		// Without a crash: what disk.Append did is told, made sure or not.
		if at > 1 {
			n := max((at-2)/2, 0)
			l := wantOpened(t, fmt.Sprintf("the call %d fails", at), d, row[:n])
			wantGoesOn(t, fmt.Sprintf("the call %d fails", at), d, l, row[:n])
		} else {
			wantNotOpened(t, "disk.Create fails", d, name, api.ErrNone)
		}
	}
}

// A record that was refused and then told, not sure as it is, is made sure with the one behind it.
func TestGoingOnBehindARefusedRecord(t *testing.T) {
	row := inRow(5, 1, 3)
	d, l := logOf(t, row[0])
	d.Fault(2, 1)
	wantErrno(t, "disk.Sync fails", l.Append(row[1]), api.ErrIO)
	m := wantOpened(t, "as it stands", d, row)
	all := append(slices.Clone(row), some(9, 2))
	wantErrno(t, "the next", m.Append(all[2]), api.OK)
	eachCrash(d, func(what string, c *disk.Disk) { wantOpened(t, what, c, all) })
}

// Two logs, the power going at each call of either.
func TestThePowerGoesWithTwoLogs(t *testing.T) {
	rowA, rowB := inRow(1, 2, 1), inRow(9, 1, 3)
	for at := int64(1); at <= 13; at++ {
		d := disk.New(roomy)
		d.Fuse(at)
		a, _ := wal.Create(d, "a")
		b, _ := wal.Create(d, "b")
		var sureA, sureB int
		for i := range rowA {
			if a.Append(rowA[i]) == api.OK {
				sureA++
			}
			if b.Append(rowB[i]) == api.OK {
				sureB++
			}
		}
		for _, picks := range [][]int{nil, {1, 0, 0}, {1, 9, 9}, {1, 1 << 40, 1 << 40}, {0, 3, 0}, {0, 0, 3}, {0, 20, 20}} {
			c := d.Copy()
			c.Crash(picks)
			wantOne(t, fmt.Sprint(at, picks), c, "a", rowA, a != nil, sureA)
			wantOne(t, fmt.Sprint(at, picks), c, "b", rowB, b != nil, sureB)
		}
	}
}

func wantOne(t *testing.T, what string, d *disk.Disk, name string, row []api.Batch, made bool, sure int) {
	t.Helper()
	_, told, errno := wal.Open(d, name)
	if errno != api.OK && (made || errno != api.ErrNone) {
		t.Errorf("%s: Open(%q) = %d", what, name, errno)
	}
	if n := len(told); n < sure || n > min(sure+1, len(row)) || !same(told, row[:n]) {
		t.Errorf("%s: %q tells %s, with %d answered OK", what, name, show(told), sure)
	}
}
