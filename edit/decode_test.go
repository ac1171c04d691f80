package edit_test

import (
	"bytes"
	"math"
	"strings"
	"testing"

	"halyard/api"
	"halyard/edit"
)

// P14.2

func TestDecodeOfKnownBytes(t *testing.T) {
	for text, want := range known() {
		wantDecode(t, unhex(t, text), want)
	}
}

func TestDecodeOfEditsThatMayBe(t *testing.T) {
	for _, e := range good() {
		wantDecode(t, bytesOf(e), e)
	}
}

// spot is a number's place: what stands ahead of it, what may follow it, and the greatest one that may stand there.
type spot struct {
	ahead, behind string
	most          uint64
}

// spots are the places of all numbers of an edit but the lengths, in a first and in a further line.
func spots() []spot {
	first, second := "03 04 09 01", "03 04 09 02 08 01 05 01 61 01 62"
	return []spot{
		{"", "04 09 00 00", mark},
		{"03", "09 00 00", mark},
		{"03 04", "00 00", mark},
		{"03 04 09", "07 00 01 01 61 01 61 00", tables},
		{"03 04 09 00", "05", tables},
		{first + "07 00 01 01 61 01 61", "05", tables},
		{first, "00 01 01 61 01 61 00", number},
		{second, "00 01 01 61 01 61 00", number},
		{first + "07", "01 01 61 01 61 00", 3},
		{second + "07", "01 01 61 01 61 00", 3},
		{first + "07 00", "01 61 01 61 00", biggest},
		{second + "07 00", "01 61 01 61 00", biggest},
		{"03 04 09 00 01", "", number},
		{"03 04 09 00 02", "05", number},
		{"03 04 09 00 02 05", "", number},
		{first + "07 00 01 01 61 01 61 02 05", "", number},
	}
}

// keySpots are the places of the lengths.
func keySpots() []string {
	first, second := "03 04 09 01 07 00 05", "03 04 09 02 08 01 05 01 61 01 62 07 00 05"
	return []string{first, first + "01 61", second, second + "01 61"}
}

func TestDecodeOfNumbersOfWrongForms(t *testing.T) {
	all := spots()
	for _, ahead := range keySpots() {
		all = append(all, spot{ahead: ahead, behind: "61 00"})
	}
	for _, s := range all {
		for _, bad := range []string{"80 00", "81 00", "81 80 00", "ff 80 00", "80 80 80 80 80 80 80 80 80 00", "80 80 80 80 80 80 80 80 80 02", "ff ff ff ff ff ff ff ff ff 7f", "80 80 80 80 80 80 80 80 80 80 01", "81 80 80 80 80 80 80 80 80 80 80 80 00"} {
			for _, behind := range []string{s.behind, "", "80 00", "81 04", "80"} {
				wantRefused(t, unhex(t, s.ahead+bad+behind), api.ErrForm)
			}
		}
		for _, n := range []int{0, 1, 2, 9, 10, 11, 300} {
			wantRefused(t, join(unhex(t, s.ahead), bytes.Repeat([]byte{0x80}, n)), api.ErrShort)
			wantRefused(t, join(unhex(t, s.ahead), bytes.Repeat([]byte{0xff}, n)), api.ErrShort)
		}
	}
}

// What is too great is told where it is met, whatever is wrong or lacking behind.
func TestDecodeOfNumbersAboveTheBound(t *testing.T) {
	for _, s := range spots() {
		for _, n := range []uint64{s.most + 1, s.most + 2, 2*s.most + 1, mark + 1, 1 << 63, 1<<63 + 1, 1<<63 + 5, math.MaxUint64 - 1, math.MaxUint64} {
			for _, behind := range []string{s.behind, "", "80", "80 00", "81 04", "81 04 81 04", "00 00 00 00"} {
				wantRefused(t, join(unhex(t, s.ahead), uvarint(n), unhex(t, behind)), api.ErrForm)
			}
		}
		wantAsTheWords(t, join(unhex(t, s.ahead), uvarint(s.most), unhex(t, s.behind)))
		wantAsTheWords(t, join(unhex(t, s.ahead), uvarint(s.most-1), unhex(t, s.behind)))
	}
}

func TestDecodeOfTooManyThatAreThere(t *testing.T) {
	for _, n := range []int{201, 202, 256, 400} {
		wantRefused(t, bytesOf(adding(manyLines(1, n)...)), api.ErrForm)
		wantRefused(t, bytesOf(removing(manyNumbers(1, n)...)), api.ErrForm)
		wantRefused(t, bytesOf(api.Edit{Add: manyLines(1, 200), Remove: manyNumbers(1, n)}), api.ErrForm)
		wantRefused(t, bytesOf(api.Edit{Add: manyLines(1, n), Remove: manyNumbers(1, 200)}), api.ErrForm)
	}
}

func TestDecodeOfMoreThanThereAre(t *testing.T) {
	for there := range 5 {
		for told := there + 1; told <= tables; told += 7 {
			b := join([]byte{3, 4, 9}, uvarint(uint64(told)))
			for _, l := range manyLines(1, there) {
				b = append(b, lineBytes(l)...)
			}
			wantRefused(t, b, api.ErrShort)
			b = join([]byte{3, 4, 9, 0}, uvarint(uint64(told)))
			for _, n := range manyNumbers(1, there) {
				b = append(b, uvarint(uint64(n))...)
			}
			wantRefused(t, b, api.ErrShort)
		}
	}
}

func TestDecodeOfBytesBehindTheEnd(t *testing.T) {
	for _, e := range []api.Edit{{}, removing(2), adding(line(7, 3, 300, "ab", "b")), {Add: manyLines(1, 200), Remove: manyNumbers(1, 200)}} {
		for _, behind := range [][]byte{{0}, {1}, {2}, {0x80}, {0xff}, {0x80, 0}, []byte("x"), lineBytes(line(1, 0, 1, "a", "b")), bytesOf(e)} {
			wantRefused(t, join(bytesOf(e), behind), api.ErrForm)
		}
	}
}

func TestDecodeOfLengthsGreaterThanWhatIsThere(t *testing.T) {
	for _, ahead := range keySpots() {
		for _, n := range []int{1, 2, 127, 128, 300, 511, 512} {
			for _, there := range []int{0, n / 2, n - 1} {
				wantRefused(t, join(unhex(t, ahead), uvarint(uint64(n)), make([]byte, there)), api.ErrShort)
			}
		}
	}
}

// The bound is asked ahead of the bytes: a length above it is ErrLong, whether they are there or not.
func TestDecodeOfLengthsAboveTheBound(t *testing.T) {
	for _, ahead := range keySpots() {
		for _, n := range []uint64{513, 514, 5000, 1 << 31, 1 << 32, 1<<32 + 1, 1 << 62, 1<<62 + 1, 1 << 63, math.MaxUint64} {
			for _, there := range []int{0, 1, 513, 6000} {
				wantRefused(t, join(unhex(t, ahead), uvarint(n), make([]byte, there)), api.ErrLong)
			}
		}
	}
	long := strings.Repeat("k", 513)
	wantRefused(t, bytesOf(adding(line(1, 0, 1, long, long))), api.ErrLong)
	wantRefused(t, bytesOf(adding(line(1, 0, 1, "a", long))), api.ErrLong)
	wantRefused(t, bytesOf(adding(line(1, 0, 1, long, "z"))), api.ErrLong)
	wantRefused(t, bytesOf(adding(line(1, 0, 1, "a", "b"), line(2, 0, 1, "a", long))), api.ErrLong)
}

func TestDecodeOfBytesThatTellAnEditThatMayNotBe(t *testing.T) {
	full := strings.Repeat("k", longest)
	for _, e := range []api.Edit{
		adding(line(0, 0, 1, "a", "b")),
		adding(line(1, 0, 0, "a", "b")),
		adding(line(1, 0, 1, "", "b")),
		adding(line(1, 0, 1, "a", "")),
		adding(line(1, 0, 1, "", "")),
		adding(line(1, 0, 1, "b", "a")),
		adding(line(1, 0, 1, "a\x00", "a")),
		adding(line(1, 0, 1, full, full[:511])),
		adding(line(1, 0, 1, "\x80", "\x7f")),
		adding(line(1, 0, 1, "a", "b"), line(1, 0, 1, "a", "b")),
		adding(line(1, 0, 1, "a", "b"), line(2, 0, 1, "a", "b"), line(1, 3, 2, "c", "d")),
		adding(line(5, 0, 1, "a", "b"), line(2, 0, 1, "c", "b"), line(1, 3, 2, "c", "d")),
		removing(0),
		removing(1, 0),
		removing(5, 5),
		removing(5, 6, 7, 5),
		{Add: []api.Table{line(5, 0, 1, "a", "b")}, Remove: []int64{5, 5}},
		{Add: append(manyLines(1, 199), line(1, 0, 1, "a", "b")), Remove: manyNumbers(1, 200)},
		{Add: manyLines(1, 200), Remove: append(manyNumbers(1, 199), 199)},
	} {
		wantRefused(t, bytesOf(e), api.ErrForm)
		wantMay(t, e, false)
	}
	wantDecode(t, bytesOf(api.Edit{Add: []api.Table{line(5, 0, 1, "a", "b")}, Remove: []int64{5}}), api.Edit{Add: []api.Table{line(5, 0, 1, "a", "b")}, Remove: []int64{5}})
}

func TestDecodeOfSeveralErrorsTellsTheLeftmost(t *testing.T) {
	for text, want := range map[string]api.Errno{
		"03 04 09 01 07 00 01 81 04 80 00":    api.ErrLong,  // Least too long, then a number of a wrong form
		"03 04 09 01 07 00 01 80 00 81 04":    api.ErrForm,  // the other way round
		"03 04 09 01 07 04 01 81 04":          api.ErrForm,  // a level, then Least too long
		"03 04 09 01 07 00 01 81 04 01 04":    api.ErrLong,  // the other way round
		"03 04 09 01 07 00 01 01 61 81 04":    api.ErrLong,  // Most, with nothing behind
		"03 04 09 01 07 00 01 01 61 05 61 62": api.ErrShort, // Most lacks bytes
		"03 04 09 01 07 00 01 05 61 62":       api.ErrShort, // Least does
		"03 04 09 01":                         api.ErrShort, // a line told and none there
		"03 04 09 00 01":                      api.ErrShort, // a number told and none there
		"03 04 09 00":                         api.ErrShort, // no count of numbers
		"03 04 09 c9 01 81 04":                api.ErrForm,  // the count, and nothing that could be a line
		"80 00 c9 01":                         api.ErrForm,
		"03 04 09 01 07 00 81 80 80 02 81 04": api.ErrForm,  // the size, then Least too long
		"03 04 09 02 07 00 01 01 61 01 61 07": api.ErrShort, // a number again, and the rest of its line lacking
	} {
		wantRefused(t, unhex(t, text), want)
	}
}

// What is too small, stands twice or is out of order is no error of its own place: it is asked when all bytes are taken.
func TestDecodeAsksLastWhetherTheEditMayBe(t *testing.T) {
	for text, want := range map[string]api.Errno{
		"03 04 09 01 00":                                     api.ErrShort, // the number 0
		"03 04 09 01 00 00 01 81 04":                         api.ErrLong,
		"03 04 09 01 00 00 01 01 61 01 61":                   api.ErrShort,
		"03 04 09 01 00 00 01 01 61 01 61 00":                api.ErrForm,
		"03 04 09 01 07 00 00":                               api.ErrShort, // the size 0
		"03 04 09 01 07 00 00 81 04":                         api.ErrLong,
		"03 04 09 01 07 00 00 01 61 01 61 00":                api.ErrForm,
		"03 04 09 01 07 00 01 00":                            api.ErrShort, // no Least
		"03 04 09 01 07 00 01 00 81 04":                      api.ErrLong,
		"03 04 09 01 07 00 01 00 01 61 00":                   api.ErrForm,
		"03 04 09 01 07 00 01 01 61 00":                      api.ErrShort, // no Most
		"03 04 09 01 07 00 01 01 61 00 00":                   api.ErrForm,
		"03 04 09 01 07 00 01 01 62 01 61":                   api.ErrShort, // Least behind Most
		"03 04 09 01 07 00 01 01 62 01 61 00":                api.ErrForm,
		"03 04 09 02 07 00 01 01 61 01 61 07 00 01 81 04":    api.ErrLong, // a number twice
		"03 04 09 02 07 00 01 01 61 01 61 07 00 01 01 61":    api.ErrShort,
		"03 04 09 02 07 00 01 01 61 01 61 07 00 01 01 61 01": api.ErrShort,
		"03 04 09 00 03 05 05":                               api.ErrShort, // to remove twice
		"03 04 09 00 02 00":                                  api.ErrShort, // to remove 0
		"03 04 09 00 01 00":                                  api.ErrForm,
		"03 04 09 00 02 05 05":                               api.ErrForm,
	} {
		wantRefused(t, unhex(t, text), want)
	}
}

// keys are all keys of a row of lines.
func keys(lines []api.Table) [][]byte {
	var all [][]byte
	for _, l := range lines {
		all = append(all, l.Least, l.Most)
	}
	return all
}

// wantApart overwrites one list after the other, with what lies behind its length, and looks whether another one changed.
func wantApart(t *testing.T, all [][]byte) {
	t.Helper()
	before := make([][]byte, len(all))
	for i, l := range all {
		before[i] = bytes.Clone(l)
	}
	for i, l := range all {
		overwrite(l)
		for j, other := range all {
			if j != i && !bytes.Equal(other, before[j]) {
				t.Errorf("the lists %d and %d share memory", i, j)
			}
		}
		overwrite(l)
	}
}

func TestDecodeTellsMemoryOfItsOwn(t *testing.T) {
	e := api.Edit{Log: 1, Next: 2, Seq: 3, Add: append(manyLines(1, 30), line(50, 0, 1, "same", "same"), line(51, 0, 1, "same", "same")), Remove: manyNumbers(1, 40)}
	b := bytesOf(e)
	got, errno := edit.Decode(b)
	again, _ := edit.Decode(b)
	if errno != api.OK || !same(got, e) {
		t.Fatalf("%s, %d", show(got), errno)
	}
	wantApart(t, append(append(keys(got.Add), keys(again.Add)...), b))
	spoil(again)
	overwrite(b)
	if !same(got, e) {
		t.Error("what was told changed with what was handed in, or with what was told again")
	}
}

// P14.3

func TestDecodeOfEncodeIsTheEdit(t *testing.T) {
	for _, e := range good() {
		b, errno := edit.Encode(e)
		if errno != api.OK {
			t.Errorf("Encode(%s): %d", show(e), errno)
		}
		wantDecode(t, b, e)
	}
}

// What stands behind the length of a list is not read: the lacking bytes are there.
func TestShorterBeginningsOfEncodeAreErrors(t *testing.T) {
	wantRefused(t, nil, api.ErrShort)
	wantRefused(t, []byte{}, api.ErrShort)
	for _, e := range good() {
		b, _ := edit.Encode(e)
		// Of the long ones some places must do, each of the first and the last ones among them.
		step := 1 + len(b)/4000
		for cut := 0; cut < len(b); {
			if got, errno := edit.Decode(b[:cut]); errno != api.ErrShort || !zero(got) {
				t.Fatalf("Decode of %d of %d bytes = %s, %d", cut, len(b), show(got), errno)
			}
			if cut < 1000 || cut+step > len(b)-500 {
				cut++
			} else {
				cut += step
			}
		}
	}
}

// Bytes of which each number is long and no line is whole must not take longer than they are.
func TestDecodeOfLongRowsThatAreNothing(t *testing.T) {
	for _, c := range []byte{0, 1, 2, 0x7f, 0x80, 0xff} {
		long := bytes.Repeat([]byte{c}, 1<<18)
		for _, ahead := range []string{"", "03 04 09", "03 04 09 01", "03 04 09 01 07 00 05", "03 04 09 c8 01", "03 04 09 00 c8 01"} {
			wantAsTheWords(t, join(unhex(t, ahead), long))
			wantAsTheWords(t, join(unhex(t, ahead), long, []byte{1}))
		}
	}
}
