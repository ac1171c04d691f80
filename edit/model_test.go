package edit_test

import (
	"bytes"
	"encoding/binary"
	"math"
	"math/rand"
	"slices"
	"testing"

	"halyard/api"
	"halyard/edit"
)

// lineMayBe and editMayBe are the words of the chapter, to hold the package against.
func lineMayBe(l api.Table) bool {
	within := func(n, least, most int64) bool { return n >= least && n <= most }
	return within(l.Number, 1, number) && within(int64(l.Level), 0, 3) && within(l.Size, 1, biggest) &&
		within(int64(len(l.Least)), 1, longest) && within(int64(len(l.Most)), 1, longest) && string(l.Least) <= string(l.Most)
}

func editMayBe(e api.Edit) bool {
	for _, n := range []int64{e.Log, e.Next, e.Seq} {
		if n < 0 || n > mark {
			return false
		}
	}
	if len(e.Add) > tables || len(e.Remove) > tables {
		return false
	}
	for i, l := range e.Add {
		if !lineMayBe(l) || slices.ContainsFunc(e.Add[:i], func(other api.Table) bool { return other.Number == l.Number }) {
			return false
		}
	}
	for i, n := range e.Remove {
		if n < 1 || n > number || slices.Contains(e.Remove[:i], n) {
			return false
		}
	}
	return true
}

// everyLine are lines with each meeting of what may be wrong of one.
func everyLine() []api.Table {
	var lines []api.Table
	for _, n := range []int64{-1, 0, 1, number, number + 1} {
		for _, level := range []int{-1, 0, 3, 4} {
			for _, size := range []int64{-1, 0, 1, biggest, biggest + 1} {
				for _, least := range []int{0, 1, 512, 513} {
					for _, most := range []int{0, 1, 512, 513} {
						lines = append(lines, api.Table{Number: n, Level: level, Size: size, Least: make([]byte, least), Most: make([]byte, most)})
					}
				}
			}
		}
	}
	return lines
}

// decoder is P14.2's own words, a step a number, to hold the package against.
type decoder struct {
	rest  []byte
	errno api.Errno
}

func (d *decoder) fail(errno api.Errno) {
	if d.errno == api.OK {
		d.errno = errno
	}
}

func (d *decoder) number(most uint64) uint64 {
	n, size := binary.Uvarint(d.rest)
	ends := slices.ContainsFunc(d.rest, func(c byte) bool { return c < 0x80 })
	switch {
	case d.errno != api.OK:
	case !ends:
		d.fail(api.ErrShort)
	case size <= 0 || size > 1 && d.rest[size-1] == 0:
		d.fail(api.ErrForm)
	case n > most:
		d.fail(api.ErrForm)
	default:
		d.rest = d.rest[size:]
		return n
	}
	return 0
}

func (d *decoder) key() []byte {
	n := d.number(math.MaxUint64)
	switch {
	case d.errno != api.OK:
	case n > longest:
		d.fail(api.ErrLong)
	case n > uint64(len(d.rest)):
		d.fail(api.ErrShort)
	default:
		s := d.rest[:n]
		d.rest = d.rest[n:]
		return s
	}
	return nil
}

func editOf(whole []byte) (api.Edit, api.Errno) {
	d := &decoder{rest: whole}
	e := api.Edit{Log: int64(d.number(mark))}
	e.Next = int64(d.number(mark))
	e.Seq = int64(d.number(mark))
	for range d.number(tables) {
		l := api.Table{Number: int64(d.number(number))}
		l.Level = int(d.number(3))
		l.Size = int64(d.number(biggest))
		l.Least = d.key()
		l.Most = d.key()
		e.Add = append(e.Add, l)
	}
	for range d.number(tables) {
		e.Remove = append(e.Remove, int64(d.number(number)))
	}
	if len(d.rest) > 0 || !editMayBe(e) {
		d.fail(api.ErrForm)
	}
	if d.errno != api.OK {
		return api.Edit{}, d.errno
	}
	return e, api.OK
}

// wantAsTheWords holds Decode against the words, and what it takes against its bytes: no edit has two rows of bytes.
func wantAsTheWords(t *testing.T, b []byte) {
	t.Helper()
	want, wantErrno := editOf(b)
	got, errno := edit.Decode(b)
	if errno != wantErrno || !same(got, want) || errno != api.OK && !zero(got) {
		t.Fatalf("Decode(%.80x) = %s, %d, not %s, %d", b, show(got), errno, show(want), wantErrno)
	}
	if errno != api.OK {
		return
	}
	if back, errno := edit.Encode(got); errno != api.OK || !bytes.Equal(back, b) || !edit.May(got) {
		t.Fatalf("Encode of Decode of %.80x = %.80x, %d", b, back, errno)
	}
}

func TestDecodeOfAllShortRows(t *testing.T) {
	alphabet := []byte{0, 1, 2, 0x80, 0xc9, 4}
	last := [][]byte{nil}
	for range 6 {
		var longer [][]byte
		for _, r := range last {
			for _, c := range alphabet {
				next := append(bytes.Clone(r), c)
				wantAsTheWords(t, next)
				wantAsTheWords(t, join([]byte{3, 4, 9}, next))
				wantAsTheWords(t, join([]byte{3, 4, 9, 1, 7}, next))
				wantAsTheWords(t, join([]byte{3, 4, 9, 1, 7, 0, 5, 1, 1}, next))
				wantAsTheWords(t, join([]byte{3, 4, 9, 2, 7, 0, 5, 1, 1, 1, 1, 7, 0, 5}, next))
				longer = append(longer, next)
			}
		}
		last = longer
	}
}

func TestDecodeOfBytesWithOneChanged(t *testing.T) {
	for _, e := range []api.Edit{removing(2), removing(9, 8, 300), adding(line(7, 3, 300, "ab", "b")), {Log: 300, Next: mark, Seq: 128, Add: manyLines(126, 4), Remove: []int64{number, 4, 126}}} {
		whole := bytesOf(e)
		for at := range whole {
			for c := range 256 {
				other := bytes.Clone(whole)
				other[at] = byte(c)
				wantAsTheWords(t, other)
			}
			wantAsTheWords(t, append(bytes.Clone(whole[:at]), whole[at+1:]...))
			wantAsTheWords(t, join(whole[:at], []byte{0x80}, whole[at:]))
			wantAsTheWords(t, join(whole[:at], []byte{0}, whole[at:]))
		}
	}
}

// anyNumber is a number up to most, small ones and those near the bound among them.
func anyNumber(from *rand.Rand, least, most int64) int64 {
	switch from.Intn(6) {
	case 0:
		return least
	case 1:
		return most
	}
	return max(least, from.Int63n(most+1)>>from.Intn(41))
}

func anyLine(from *rand.Rand) api.Table {
	keys := [][]byte{row(from.Int63(), 1+from.Intn(20)), row(from.Int63(), 1+from.Intn(20))}
	slices.SortFunc(keys, bytes.Compare)
	return api.Table{Number: anyNumber(from, 1, number), Level: from.Intn(4), Size: anyNumber(from, 1, biggest), Least: keys[0], Most: keys[1]}
}

// anyEdit is mostly one that may be; now and then a number stands twice.
func anyEdit(from *rand.Rand) api.Edit {
	e := api.Edit{Log: anyNumber(from, 0, mark), Next: anyNumber(from, 0, mark), Seq: anyNumber(from, 0, mark)}
	for range from.Intn(6) {
		e.Add = append(e.Add, anyLine(from))
	}
	for range from.Intn(6) {
		e.Remove = append(e.Remove, anyNumber(from, 1, number))
	}
	return e
}

// change makes one thing of an edit another one, at times one that may not be.
func change(from *rand.Rand, e *api.Edit) {
	odd := []int64{-1, 0, 1, 2, 3, 4, number, number + 1, biggest, biggest + 1, mark, mark + 1, math.MaxInt64, math.MinInt64}
	n := odd[from.Intn(len(odd))]
	part := from.Intn(9)
	if len(e.Add) == 0 && part > 2 || len(e.Remove) == 0 && part == 8 {
		part = from.Intn(3)
	}
	var l *api.Table
	if part > 2 && part < 8 {
		l = &e.Add[from.Intn(len(e.Add))]
	}
	switch part {
	case 0:
		e.Log = n
	case 1:
		e.Next = n
	case 2:
		e.Seq = n
	case 3:
		l.Number = n
	case 4:
		l.Level = int(n)
	case 5:
		l.Size = n
	case 6:
		l.Least, l.Most = l.Most, l.Least
	case 7:
		l.Most = make([]byte, []int{0, 1, 512, 513}[from.Intn(4)])
	case 8:
		e.Remove[from.Intn(len(e.Remove))] = n
	}
}

func TestOfAnyEdits(t *testing.T) {
	from := rand.New(rand.NewSource(14))
	may := 0
	for range 5000 {
		e := anyEdit(from)
		for range from.Intn(3) {
			change(from, &e)
		}
		if editMayBe(e) {
			may++
		}
		wantMay(t, e, editMayBe(e))
		// Numbers below 0 are bytes of numbers above all bounds.
		wantAsTheWords(t, bytesOf(e))
	}
	if may < 1000 || may > 4000 {
		t.Errorf("of 5000 edits %d may be: one of the two sides is hardly looked at", may)
	}
}

func TestDecodeOfEncodeOfAnyEdits(t *testing.T) {
	from := rand.New(rand.NewSource(41))
	for range 1000 {
		e := anyEdit(from)
		if !editMayBe(e) {
			continue
		}
		b, errno := edit.Encode(e)
		if errno != api.OK || !bytes.Equal(b, bytesOf(e)) {
			t.Fatalf("Encode(%s) = %.60x, %d", show(e), b, errno)
		}
		wantDecode(t, b, e)
		for cut := range b {
			wantRefused(t, b[:cut], api.ErrShort)
		}
	}
}

// Rows with a fault or two: bytes changed, left out, put in, cut off, doubled.
func TestDecodeOfRowsWithFaults(t *testing.T) {
	from := rand.New(rand.NewSource(42))
	for range 20000 {
		b := bytesOf(anyEdit(from))
		for range 1 + from.Intn(3) {
			at := from.Intn(len(b))
			switch from.Intn(5) {
			case 0:
				b[at] = byte(from.Intn(256))
			case 1:
				b = slices.Delete(b, at, min(len(b), at+1+from.Intn(3)))
			case 2:
				b = slices.Insert(b, at, row(from.Int63(), 1+from.Intn(3))...)
			case 3:
				b = b[:at]
			case 4:
				b = append(b, b[at:]...)
			}
			if len(b) == 0 {
				b = []byte{0}
			}
		}
		wantAsTheWords(t, b)
	}
}

// Of bytes from another hand each call ends, and what is taken is what would be put.
func FuzzDecode(f *testing.F) {
	f.Add([]byte(nil))
	f.Add(bytesOf(removing(2)))
	f.Add(bytesOf(api.Edit{Log: 300, Next: mark, Seq: 128, Add: manyLines(126, 4), Remove: []int64{number, 4, 126}}))
	f.Add([]byte("\x03\x04\x09\x01\x07\x03\x01\x81\x04"))
	f.Add([]byte("\x81\x80\x80\x80\x80\x80\x80\x80\x40\x00"))
	f.Fuzz(wantAsTheWords)
}
