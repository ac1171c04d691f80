package wal_test

import (
	"bytes"
	"slices"
	"testing"
	"unsafe"

	"halyard/api"
	"halyard/disk"
	"halyard/wal"
)

// withRoom is a copy of b with other bytes behind its length, and all of the copy.
func withRoom(b []byte) ([]byte, []byte) {
	whole := join(b, bytes.Repeat([]byte{0xee}, 40))
	return whole[:len(b)], whole
}

// guarded is a copy of b in which each list has room behind its length, a look whether all of it stayed as it was, and a hand that changes all of it.
func guarded(b api.Batch) (given api.Batch, look func(t *testing.T), spoil func()) {
	ops := append(slices.Clone(b.Ops), put("behind", 9, "behind"), put("behind", 9, "behind"))
	var wholes, before [][]byte
	for i := range ops {
		var key, value []byte
		ops[i].Key, key = withRoom(ops[i].Key)
		ops[i].Value, value = withRoom(ops[i].Value)
		wholes = append(wholes, key, value)
		before = append(before, bytes.Clone(key), bytes.Clone(value))
	}
	image := slices.Clone(ops)
	look = func(t *testing.T) {
		t.Helper()
		if !slices.EqualFunc(ops, image, sameOp) || !slices.EqualFunc(wholes, before, bytes.Equal) {
			t.Errorf("the batch %d was changed", b.Seq)
		}
	}
	spoil = func() {
		for _, w := range wholes {
			overwrite(w)
		}
		clear(ops)
	}
	return api.Batch{Seq: b.Seq, Ops: ops[:len(b.Ops)]}, look, spoil
}

// overwrite changes each byte that the slice reaches, also those behind its length.
func overwrite(b []byte) {
	b = b[:cap(b)]
	for i := range b {
		b[i] ^= 0xff
	}
}

func TestArgumentsStayAndAreNotKept(t *testing.T) {
	for _, row := range rows() {
		d, l := logOf(t)
		for i, b := range row {
			given, look, spoil := guarded(b)
			wantErrno(t, "Append", l.Append(given), api.OK)
			look(t)
			spoil()
			wantRow(t, "behind a spoiled argument", l, row[:i+1])
		}
		wantFile(t, show(row), d, framesOf(row...))
		wantOpened(t, show(row), d, row)
	}
}

func TestRefusedArgumentsStay(t *testing.T) {
	row := inRow(3, 1)
	d, l := logOf(t, row...)
	for _, b := range append(wrong(4), some(9, 2), some(-1, 3)) {
		given, look, spoil := guarded(b)
		l.Append(given)
		look(t)
		spoil()
	}
	d.Fault(2, 1)
	for range 2 {
		given, look, spoil := guarded(some(4, 3))
		l.Append(given)
		look(t)
		spoil()
	}
	wantOpened(t, "refused", d, inRow(3, 1, 3))
}

// lists are all lists of bytes of a row.
func lists(row []api.Batch) [][]byte {
	var all [][]byte
	for _, b := range row {
		for _, op := range b.Ops {
			all = append(all, op.Key, op.Value)
		}
	}
	return all
}

// What is told is the caller's: changed in all that it reaches, it changes neither the log, nor the file, nor what is told again.
func TestWhatIsToldIsTheCallersOwn(t *testing.T) {
	row := inRow(3, 4, 1, 2)
	d, _ := logOf(t, row...)
	other, again := open(t, "the first", d)
	l, told := open(t, "the second", d)
	for _, b := range lists(told) {
		overwrite(b)
	}
	for _, b := range told {
		clear(b.Ops[:cap(b.Ops)])
	}
	clear(told[:cap(told)])
	if !same(again, row) {
		t.Errorf("two answers share memory: %s", show(again))
	}
	wantRow(t, "spoiled", l, row)
	wantRow(t, "the other", other, row)
	wantGoesOn(t, "spoiled", d, l, row)
}

// No two lists of one answer share memory, not even behind their lengths.
func TestListsThatAreToldAreApart(t *testing.T) {
	row := inRow(3, 4, 1, 5)
	d, _ := logOf(t, row...)
	_, told := open(t, "apart", d)
	all := lists(told)
	before := lists(row)
	for i, b := range all {
		overwrite(b)
		for j, other := range all {
			if i != j && !bytes.Equal(other, before[j]) {
				t.Errorf("the lists %d and %d share memory", i, j)
			}
		}
		overwrite(b)
	}
	for i := range told {
		ops := told[i].Ops[:cap(told[i].Ops)]
		kept := slices.Clone(ops)
		clear(ops)
		for j := range told {
			if i != j && !sameBatch(told[j], row[j]) {
				t.Errorf("the changes of %d and %d share memory", i, j)
			}
		}
		copy(ops, kept)
	}
}

// What is told of one log is handed to another: nothing of it is changed or kept.
func TestToldBatchesMayBeAppended(t *testing.T) {
	row := inRow(3, 4, 1, 2)
	d, _ := logOf(t, row...)
	_, told := open(t, "told", d)
	e, _ := logOf(t, told...)
	if !same(told, row) {
		t.Errorf("what was told was changed: %s", show(told))
	}
	for _, b := range lists(told) {
		overwrite(b)
	}
	wantOpened(t, "the copy", e, row)
	wantOpened(t, "the first", d, row)
}

// lent is a text in memory that its lender changes by and by.
func lent(s string) (string, func()) {
	b := []byte(s)
	return unsafe.String(&b[0], len(b)), func() { clear(b) }
}

func TestNamesAreNotKept(t *testing.T) {
	d := disk.New(roomy)
	text, back := lent(name)
	l, _ := wal.Create(d, text)
	back()
	wantGoesOn(t, "made", d, l, nil)

	text, back = lent(name)
	l, row, _ := wal.Open(d, text)
	back()
	wantGoesOn(t, "opened", d, l, row)
}

func TestNamesThatAreToldAreNew(t *testing.T) {
	_, l := logOf(t)
	if a, b := l.Name(), l.Name(); unsafe.StringData(a) == unsafe.StringData(b) {
		t.Error("two answers share memory")
	}
}
