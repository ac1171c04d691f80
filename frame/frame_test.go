package frame_test

import (
	"bytes"
	"encoding/binary"
	"hash/crc32"
	"math"
	"math/bits"
	"math/rand"
	"strings"
	"testing"

	"halyard/api"
	"halyard/frame"
)

const bound = 1048576

// sumOf is P6.1's own words of the four bytes ahead, by the library's CRC-32C.
func sumOf(follows []byte) []byte {
	sum := crc32.Checksum(follows, crc32.MakeTable(crc32.Castagnoli))
	return binary.BigEndian.AppendUint32(nil, bits.RotateLeft32(sum, -15)+0xa282ead8)
}

// framed is the sum of what follows, and that: a frame, or nearly one.
func framed(follows []byte) []byte {
	return append(sumOf(follows), follows...)
}

// frameOf is the frame of record by P6.1's words, to hold the package against.
func frameOf(record []byte) []byte {
	return framed(append(binary.AppendUvarint(nil, uint64(len(record))), record...))
}

func framesOf(records [][]byte) []byte {
	var all []byte
	for _, r := range records {
		all = append(all, frameOf(r)...)
	}
	return all
}

// row is a row of n bytes that look like nothing in particular, the same for the same seed.
func row(seed int64, n int) []byte {
	b := make([]byte, n)
	rand.New(rand.NewSource(seed)).Read(b)
	return b
}

func join(parts ...[]byte) []byte { return bytes.Join(parts, nil) }

// guarded is b with room behind its length, and a look whether all of it stayed as it was.
func guarded(b []byte) ([]byte, func(t *testing.T)) {
	whole := append(append([]byte{}, b...), bytes.Repeat([]byte{0xee}, 40)...)
	before := bytes.Clone(whole)
	return whole[:len(b)], func(t *testing.T) {
		t.Helper()
		if !bytes.Equal(whole, before) {
			t.Errorf("an argument of %d bytes was changed", len(b))
		}
	}
}

// overwrite changes each byte that the slice reaches, also those behind its length.
func overwrite(b []byte) {
	b = b[:cap(b)]
	for i := range b {
		b[i] ^= 0xff
	}
}

func wantPut(t *testing.T, b, record []byte) {
	t.Helper()
	givenB, sameB := guarded(b)
	givenRecord, sameRecord := guarded(record)
	got, errno := frame.Put(givenB, givenRecord)
	want := join(b, frameOf(record))
	if errno != api.OK || !bytes.Equal(got, want) {
		t.Errorf("Put(%.20x, %d bytes) = %.40x, %d, not %.40x", b, len(record), got, errno, want)
	}
	overwrite(got)
	sameB(t)
	sameRecord(t)
}

func wantTake(t *testing.T, b, record []byte, size int) {
	t.Helper()
	given, same := guarded(b)
	got, n, errno := frame.Take(given)
	if errno != api.OK || n != size || !bytes.Equal(got, record) {
		t.Errorf("Take(%d bytes %.40x) = %.40x, %d, %d, not %.40x, %d", len(b), b, got, n, errno, record, size)
	}
	overwrite(got)
	same(t)
}

func wantNoFrame(t *testing.T, b []byte, want api.Errno) {
	t.Helper()
	given, same := guarded(b)
	got, n, errno := frame.Take(given)
	if errno != want || n != 0 || got != nil {
		t.Errorf("Take(%d bytes %.40x) = %.40x, %d, %d, not the error %d alone", len(b), b, got, n, errno, want)
	}
	same(t)
}

func wantScan(t *testing.T, b []byte, records [][]byte, place int) {
	t.Helper()
	given, same := guarded(b)
	got, at := frame.Scan(given)
	if at != place || !equal(got, records) {
		t.Errorf("Scan(%d bytes %.60x) = %d records, %d, not %d records, %d", len(b), b, len(got), at, len(records), place)
	}
	for _, r := range got {
		overwrite(r)
	}
	same(t)
}

func equal(a, b [][]byte) bool {
	if len(a) != len(b) {
		return false
	}
	for i := range a {
		if !bytes.Equal(a[i], b[i]) {
			return false
		}
	}
	return true
}

// edgeRecords: around each length at which the uvarint grows by a byte, and the bound itself.
func edgeRecords() [][]byte {
	records := [][]byte{nil, {}, {0}, {255}, []byte("a"), []byte("123456789")}
	for _, n := range []int{2, 4, 126, 127, 128, 129, 200, 16383, 16384, 16385, bound - 1, bound} {
		records = append(records, row(int64(n), n))
	}
	return records
}

// P6.1

func TestPutOfKnownRecords(t *testing.T) {
	for _, c := range []struct {
		record string
		want   []byte
	}{
		{"", []byte{0x49, 0x25, 0x8f, 0xd2, 0x00}},
		{"a", []byte{0xa2, 0x0b, 0xcd, 0xb5, 0x01, 'a'}},
		{"123456789", []byte("\xd8\x43\x58\x3d\x09123456789")},
		{strings.Repeat("b", 128), []byte("\x0e\xab\xc3\x9e\x80\x01" + strings.Repeat("b", 128))},
	} {
		got, errno := frame.Put(nil, []byte(c.record))
		if errno != api.OK || !bytes.Equal(got, c.want) {
			t.Errorf("Put(nil, %q) = %x, %d, not %x", c.record, got, errno, c.want)
		}
	}
}

func TestPutOfTheDocumentsExample(t *testing.T) {
	got, errno := frame.Put(nil, []byte("a"))
	if errno != api.OK || len(got) != 6 || got[4] != 0x01 || got[5] != 0x61 {
		t.Errorf("Put(nil, a) = %x, %d", got, errno)
	}
}

func TestPutOfEveryLength(t *testing.T) {
	for n := range 300 {
		wantPut(t, nil, row(int64(n), n))
	}
	for _, record := range edgeRecords() {
		wantPut(t, nil, record)
	}
}

func TestPutHasTheLengthInAsFewBytesAsItTakes(t *testing.T) {
	for n, head := range map[int]int{0: 5, 127: 5, 128: 6, 16383: 6, 16384: 7, bound: 7} {
		got, errno := frame.Put(nil, make([]byte, n))
		if errno != api.OK || len(got) != head+n {
			t.Errorf("a record of %d bytes: %d bytes, %d", n, len(got), errno)
		}
	}
}

func TestPutOfNilIsPutOfNoBytes(t *testing.T) {
	of, errno := frame.Put(nil, nil)
	also, errnoAlso := frame.Put([]byte{}, []byte{})
	if errno != api.OK || errnoAlso != api.OK || !bytes.Equal(of, also) || len(of) != 5 {
		t.Errorf("%x, %d; %x, %d", of, errno, also, errnoAlso)
	}
}

func TestPutBehindAnyBytes(t *testing.T) {
	for _, b := range [][]byte{nil, {}, {0}, []byte("x"), []byte("abcd\x01a"), frameOf([]byte("ahead")), row(1, 1000), row(2, bound+5)} {
		for _, record := range [][]byte{nil, []byte("a"), row(3, 200), row(4, 20000)} {
			wantPut(t, b, record)
		}
	}
}

func TestPutOfOneBehindTheOther(t *testing.T) {
	var all []byte
	records := [][]byte{[]byte("a"), nil, row(5, 128), []byte("a"), row(6, 16384)}
	for _, record := range records {
		next, errno := frame.Put(all, record)
		if errno != api.OK {
			t.Fatal(errno)
		}
		all = next
	}
	if !bytes.Equal(all, framesOf(records)) {
		t.Error("frames one behind the other are other bytes")
	}
}

func TestPutOfTooLongARecord(t *testing.T) {
	for _, n := range []int{bound + 1, bound + 2, 2*bound + 1, 4 * bound} {
		for _, b := range [][]byte{nil, []byte("x"), row(7, 100)} {
			givenB, sameB := guarded(b)
			record, sameRecord := guarded(make([]byte, n))
			if got, errno := frame.Put(givenB, record); errno != api.ErrLong || got != nil {
				t.Errorf("Put of %d bytes = %d bytes, %d", n, len(got), errno)
			}
			sameB(t)
			sameRecord(t)
		}
	}
}

func TestPutTellsMemoryOfItsOwn(t *testing.T) {
	room := append(make([]byte, 0, 500), "ahead"...)
	one, _ := frame.Put(room, []byte("one"))
	two, _ := frame.Put(room, []byte("two"))
	if !bytes.Equal(one, join([]byte("ahead"), frameOf([]byte("one")))) || !bytes.Equal(two, join([]byte("ahead"), frameOf([]byte("two")))) {
		t.Errorf("two frames behind one row: %x, %x", one, two)
	}
	overwrite(room)
	if string(one[:5]) != "ahead" || string(two[:5]) != "ahead" {
		t.Error("what was told changed with what was handed in")
	}
	record := []byte("abc")
	told, _ := frame.Put(nil, record)
	overwrite(record)
	if !bytes.Equal(told, frameOf([]byte("abc"))) {
		t.Error("what was told changed with the record")
	}
}

func TestPutOfOneArgumentTwice(t *testing.T) {
	b := append(make([]byte, 0, 100), "both"...)
	got, errno := frame.Put(b, b)
	if errno != api.OK || !bytes.Equal(got, join([]byte("both"), frameOf([]byte("both")))) || string(b) != "both" {
		t.Errorf("Put(b, b) = %x, %d", got, errno)
	}
}

// P6.2

func TestTakeOfFrames(t *testing.T) {
	for _, record := range edgeRecords() {
		whole := frameOf(record)
		for _, behind := range [][]byte{nil, {0}, []byte("xyz"), whole[:4], frameOf([]byte("next"))} {
			wantTake(t, join(whole, behind), record, len(whole))
		}
	}
}

func TestTakeOfNoSum(t *testing.T) {
	wantNoFrame(t, nil, api.ErrShort)
	for n := range 4 {
		wantNoFrame(t, make([]byte, n), api.ErrShort)
		wantNoFrame(t, frameOf([]byte("a"))[:n], api.ErrShort)
		wantNoFrame(t, bytes.Repeat([]byte{0xff}, n), api.ErrShort)
	}
}

// What stands behind the length of a list is not read: a whole frame there does not count.
func TestTakeReadsNothingBehindTheLength(t *testing.T) {
	whole := frameOf([]byte("abc"))
	for n := range whole {
		if got, size, errno := frame.Take(whole[:n]); errno != api.ErrShort || size != 0 || got != nil {
			t.Errorf("%d bytes: %x, %d, %d", n, got, size, errno)
		}
	}
}

func TestTakeOfWrongLengths(t *testing.T) {
	for _, c := range []struct {
		follows []byte
		want    api.Errno
	}{
		{nil, api.ErrShort},
		{[]byte{0x80}, api.ErrShort},
		{[]byte{0x80, 0x80, 0x80}, api.ErrShort},
		{bytes.Repeat([]byte{0xff}, 9), api.ErrShort},
		{bytes.Repeat([]byte{0x80}, 50), api.ErrShort},
		{[]byte{0x80, 0x00}, api.ErrForm},
		{[]byte{0x81, 0x00, 'a'}, api.ErrForm},
		{[]byte{0x81, 0x80, 0x00, 'a'}, api.ErrForm},
		{append(bytes.Repeat([]byte{0x80}, 9), 0x02), api.ErrForm},
		{append(bytes.Repeat([]byte{0xff}, 10), 0x01), api.ErrForm},
		{append(bytes.Repeat([]byte{0x80}, 50), 0x01), api.ErrForm},
		{[]byte{0x81, 0x80, 0x40}, api.ErrLong},
		{[]byte{0xff, 0xff, 0x7f}, api.ErrLong},
		{binary.AppendUvarint(nil, 1<<31), api.ErrLong},
		{binary.AppendUvarint(nil, 1<<32), api.ErrLong},
		{binary.AppendUvarint(nil, 1<<32+1), api.ErrLong},
		{binary.AppendUvarint(nil, math.MaxInt64), api.ErrLong},
		{binary.AppendUvarint(nil, 1<<63), api.ErrLong},
		{binary.AppendUvarint(nil, math.MaxUint64), api.ErrLong},
		{binary.AppendUvarint(nil, math.MaxUint64-3), api.ErrLong},
	} {
		// The sum is asked last: right or wrong, the length's error is told.
		wantNoFrame(t, framed(c.follows), c.want)
		wantNoFrame(t, join([]byte("abcd"), c.follows), c.want)
	}
}

func TestTakeAtTheBound(t *testing.T) {
	record := row(8, bound+1)
	wantTake(t, frameOf(record[:bound]), record[:bound], bound+7)
	wantNoFrame(t, frameOf(record), api.ErrLong)
	wantNoFrame(t, frameOf(record)[:bound+7], api.ErrLong)
	wantNoFrame(t, frameOf(record[:bound])[:bound+6], api.ErrShort)
	wantNoFrame(t, []byte("abcd\x80\x80\x40"), api.ErrShort)
}

func TestTakeOfACutRecord(t *testing.T) {
	for _, n := range []int{1, 2, 127, 128, 300} {
		whole := frameOf(row(int64(n), n))
		for cut := range whole {
			wantNoFrame(t, whole[:cut], api.ErrShort)
		}
	}
	// Cut, and the sum is that of what is left: the bytes are lacking all the same.
	wantNoFrame(t, framed([]byte("\x03ab")), api.ErrShort)
	wantNoFrame(t, framed([]byte("\x01")), api.ErrShort)
	wantNoFrame(t, framed([]byte("\x80\x01")), api.ErrShort)
}

func TestTakeOfAnotherSum(t *testing.T) {
	for _, record := range [][]byte{nil, []byte("a"), row(9, 200), row(10, 16384)} {
		for bit := range 32 {
			bad := frameOf(record)
			bad[bit/8] ^= 1 << (bit % 8)
			wantNoFrame(t, bad, api.ErrSum)
		}
	}
	wantNoFrame(t, []byte("abcd\x01a"), api.ErrSum)
	wantNoFrame(t, make([]byte, 5), api.ErrSum)
}

// Sums that are nearly the right one: not masked, the lowest byte first, of the record alone, of the bytes behind as well.
func TestTakeOfNearlyTheSum(t *testing.T) {
	follows := []byte("\x03abc")
	plain := crc32.Checksum(follows, crc32.MakeTable(crc32.Castagnoli))
	right := sumOf(follows)
	for _, sum := range [][]byte{
		binary.BigEndian.AppendUint32(nil, plain),
		{right[3], right[2], right[1], right[0]},
		sumOf(follows[1:]),
		sumOf(join(follows, []byte("x"))),
		sumOf(nil),
	} {
		wantNoFrame(t, join(sum, follows), api.ErrSum)
		wantNoFrame(t, join(sum, follows, []byte("x")), api.ErrSum)
	}
}

func TestTakeTellsMemoryOfItsOwn(t *testing.T) {
	b := join(frameOf([]byte("abc")), frameOf([]byte("def")))
	record, size, _ := frame.Take(b)
	again, _, _ := frame.Take(b)
	overwrite(again)
	_ = append(record, "behind"...)
	if !bytes.Equal(b[size:], frameOf([]byte("def"))) {
		t.Error("a record that goes on wrote into what was handed in")
	}
	overwrite(b)
	if string(record) != "abc" {
		t.Errorf("the record became %q", record)
	}
}

// P6.3

func TestScanOfNothing(t *testing.T) {
	wantScan(t, nil, nil, 0)
	wantScan(t, []byte{}, nil, 0)
}

func TestScanOfTheDocumentsExample(t *testing.T) {
	records := [][]byte{[]byte("one"), []byte("another")}
	frames := framesOf(records)
	wantScan(t, join(frames, []byte{1, 2, 3}), records, len(frames))
}

func someRecords() [][]byte {
	return [][]byte{[]byte("a"), row(11, 200), nil, row(12, 127), row(13, 128), nil, []byte("last")}
}

func TestScanOfFramesAlone(t *testing.T) {
	records := someRecords()
	for n := range len(records) + 1 {
		frames := framesOf(records[:n])
		wantScan(t, frames, records[:n], len(frames))
	}
	long := edgeRecords()
	frames := framesOf(long)
	wantScan(t, frames, long, len(frames))
}

func TestScanOfManyFrames(t *testing.T) {
	records := make([][]byte, 20000)
	for i := range records {
		records[i] = row(int64(i), i%7)
	}
	frames := framesOf(records)
	wantScan(t, frames, records, len(frames))
}

// Each error of Take ends a scan, with frames behind it or without.
func TestScanUpToWhatIsNoFrame(t *testing.T) {
	ahead := [][]byte{[]byte("a"), nil, row(14, 300)}
	frames := framesOf(ahead)
	badSum := frameOf([]byte("bad"))
	badSum[0] ^= 1
	for _, bad := range [][]byte{badSum, framed([]byte{0x80, 0x00}), framed([]byte{0x81, 0x80, 0x40}), frameOf(make([]byte, bound+1)), make([]byte, 5), []byte("abcd\x7f")} {
		wantScan(t, join(frames, bad), ahead, len(frames))
		wantScan(t, join(frames, bad, frameOf([]byte("behind"))), ahead, len(frames))
		wantScan(t, join(bad, frames), nil, 0)
	}
}

func TestScanWithABrokenFrameAtEachPlace(t *testing.T) {
	records := someRecords()
	for broken := range records {
		frames := framesOf(records)
		place := len(framesOf(records[:broken]))
		frames[place+3] ^= 0x40
		wantScan(t, frames, records[:broken], place)
	}
}

// byTakes is P6.3's words, with Take's own answers.
func byTakes(b []byte) ([][]byte, int) {
	var records [][]byte
	for at := 0; ; {
		record, size, errno := frame.Take(b[at:])
		if errno != api.OK {
			return records, at
		}
		records = append(records, record)
		at += size
	}
}

func TestScanIsTakeAgainAndAgain(t *testing.T) {
	from := rand.New(rand.NewSource(15))
	for range 3000 {
		var b []byte
		for range from.Intn(6) {
			part := frameOf(row(from.Int63(), from.Intn(20)))
			if from.Intn(4) == 0 {
				part[from.Intn(len(part))] = byte(from.Intn(256))
			}
			b = append(b, part...)
		}
		b = append(b, row(from.Int63(), from.Intn(9))...)
		records, place := byTakes(b)
		wantScan(t, b, records, place)
	}
}

func TestScanTellsMemoryOfItsOwn(t *testing.T) {
	want := someRecords()
	b := framesOf(want)
	records, _ := frame.Scan(b)
	again, _ := frame.Scan(b)
	for _, r := range again {
		overwrite(r)
	}
	overwrite(b)
	if !equal(records, want) {
		t.Fatal("the records changed with what was handed in, or with another answer")
	}
	for i := range records {
		_ = append(records[i], bytes.Repeat([]byte{0xdd}, 64)...)
		overwrite(records[i])
		if !equal(records[i+1:], want[i+1:]) {
			t.Fatalf("record %d shares memory with one behind it", i)
		}
	}
}

// P6.4

func TestScanOfPutsIsTheirRecords(t *testing.T) {
	from := rand.New(rand.NewSource(16))
	for range 300 {
		var b []byte
		var records [][]byte
		for range from.Intn(8) {
			record := row(from.Int63(), from.Intn(400))
			b, _ = frame.Put(b, record)
			records = append(records, record)
		}
		for behind := range 4 {
			wantScan(t, join(b, row(from.Int63(), behind)), records, len(b))
		}
	}
}

func TestScanCutOffAnywhereIsTheWholeOnesAhead(t *testing.T) {
	records := someRecords()
	frames := framesOf(records)
	whole, end := 0, 0
	for cut := range len(frames) + 1 {
		for whole < len(records) && cut >= end+len(frameOf(records[whole])) {
			end += len(frameOf(records[whole]))
			whole++
		}
		wantScan(t, frames[:cut], records[:whole], end)
		wantScan(t, bytes.Clone(frames[:cut]), records[:whole], end)
	}
	if whole != len(records) {
		t.Fatalf("only %d frames were whole", whole)
	}
}

func TestAFrameWithOneByteChangedIsNone(t *testing.T) {
	for _, record := range [][]byte{nil, []byte("a"), []byte("abc"), row(17, 127), row(18, 128), row(19, 300)} {
		whole := frameOf(record)
		for at := range whole {
			for change := 1; change < 256; change++ {
				bad := bytes.Clone(whole)
				bad[at] ^= byte(change)
				if got, size, errno := frame.Take(bad); errno == api.OK || got != nil || size != 0 {
					t.Errorf("byte %d of %d changed by %02x: %.20x, %d, %d", at, len(whole), change, got, size, errno)
				}
				wantScan(t, bad, nil, 0)
			}
		}
	}
}

func TestWhichErrorAChangedByteHas(t *testing.T) {
	whole := frameOf([]byte("abc"))
	for at := range whole {
		want := api.ErrSum
		if at == 4 {
			want = api.ErrShort
		}
		bad := bytes.Clone(whole)
		bad[at] ^= 0x40
		wantNoFrame(t, bad, want)
	}
	shorter := bytes.Clone(whole)
	shorter[4] = 2
	wantNoFrame(t, shorter, api.ErrSum)
	wantNoFrame(t, join(whole[:4], []byte{0}, whole[5:]), api.ErrSum)
}

func TestOneByteChangedAmongSeveralFrames(t *testing.T) {
	records := [][]byte{[]byte("a"), row(20, 150), nil, []byte("bcd")}
	ends := []int{0}
	for n := range records {
		ends = append(ends, len(framesOf(records[:n+1])))
	}
	frames := framesOf(records)
	for at := range frames {
		ahead := 0
		for ends[ahead+1] <= at {
			ahead++
		}
		for bit := range 8 {
			bad := bytes.Clone(frames)
			bad[at] ^= 1 << bit
			wantScan(t, bad, records[:ahead], ends[ahead])
		}
	}
}

func TestOneByteChangedInTheLongestFrame(t *testing.T) {
	whole := frameOf(row(21, bound))
	for _, at := range []int{0, 3, 4, 5, 6, 7, 8, 1000, bound / 2, len(whole) - 1} {
		bad := bytes.Clone(whole)
		bad[at] ^= 0x01
		if got, size, errno := frame.Take(bad); errno == api.OK || got != nil || size != 0 {
			t.Errorf("byte %d changed: %d bytes, %d, %d", at, len(got), size, errno)
		}
	}
}

// fourMore is the four bytes behind ahead that make the sum of all of them the sum of like.
func fourMore(ahead, like []byte) []byte {
	castagnoli := crc32.MakeTable(crc32.Castagnoli)
	state := ^crc32.Checksum(like, castagnoli)
	for range 32 {
		if state>>31 == 1 {
			state = (state^0x82f63b78)<<1 | 1
		} else {
			state <<= 1
		}
	}
	return binary.LittleEndian.AppendUint32(nil, state^^crc32.Checksum(ahead, castagnoli))
}

// A length that was changed makes a frame of another record where just that one has the same sum, and nowhere else.
func TestAChangedLengthWithTheSameSum(t *testing.T) {
	for _, short := range []string{"", "a", "abc"} {
		other := join([]byte{byte(len(short))}, []byte(short))
		ahead := join([]byte{byte(len(short) + 4)}, []byte(short))
		follows := join(ahead, fourMore(ahead, other))
		whole := framed(follows)
		wantTake(t, whole, follows[1:], len(whole))
		changed := bytes.Clone(whole)
		changed[4] = byte(len(short))
		wantTake(t, changed, []byte(short), 5+len(short))
		for n := range 256 {
			if n == len(short) || n == len(short)+4 {
				continue
			}
			changed[4] = byte(n)
			if got, _, errno := frame.Take(changed); errno == api.OK {
				t.Errorf("length %d: %x", n, got)
			}
		}
	}
}

// Of bytes from another hand each call ends, and what Take takes is what Put would put.
func TestAnyBytes(t *testing.T) {
	from := rand.New(rand.NewSource(22))
	for range 20000 {
		b := row(from.Int63(), from.Intn(40))
		if len(b) > 4 && from.Intn(2) == 0 {
			copy(b, sumOf(b[4:4+from.Intn(len(b)-3)]))
		}
		record, size, errno := frame.Take(b)
		if errno != api.OK {
			wantNoFrame(t, b, errno)
			continue
		}
		if again, _ := frame.Put(nil, record); !bytes.Equal(again, b[:size]) {
			t.Errorf("Take(%x) = %x, of which Put makes %x", b, record, again)
		}
	}
}

func FuzzScan(f *testing.F) {
	f.Add([]byte(nil))
	f.Add(framesOf(someRecords()))
	f.Add([]byte("abcd\x80\x80\x40"))
	f.Fuzz(func(t *testing.T, b []byte) {
		records, place := byTakes(b)
		wantScan(t, b, records, place)
		if !bytes.Equal(framesOf(records), b[:place]) {
			t.Error("the frames of the records are other bytes")
		}
	})
}
