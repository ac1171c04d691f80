package vint_test

import (
	"bytes"
	"encoding/binary"
	"encoding/hex"
	"math"
	"testing"

	"halyard/api"
	"halyard/vint"
)

// numbers: each count of bytes from both of its ends, and what lies between.
func numbers() []uint64 {
	all := []uint64{0, 1, 2, 5, 126, 127, 128, 129, 255, 256, 258, 300, 0x1234567890, math.MaxInt64, 1 << 63, math.MaxUint64 - 1, math.MaxUint64}
	for bit := range 64 {
		n := uint64(1) << bit
		all = append(all, n-1, n, n+1)
	}
	return all
}

func unhex(t *testing.T, text string) []byte {
	t.Helper()
	b, err := hex.DecodeString(text)
	if err != nil {
		t.Fatal(err)
	}
	return b
}

// guarded is b with room behind its length, and a look whether all of it stayed as it was.
func guarded(b []byte) ([]byte, func(t *testing.T)) {
	whole := append(append([]byte{}, b...), bytes.Repeat([]byte{0xee}, 40)...)
	before := bytes.Clone(whole)
	return whole[:len(b)], func(t *testing.T) {
		t.Helper()
		if !bytes.Equal(whole, before) {
			t.Errorf("the argument %x became %x", before, whole)
		}
	}
}

// spoil overwrites an answer, its room too: an argument that shares memory would show it.
func spoil(b []byte) {
	b = b[:cap(b)]
	for i := range b {
		b[i] ^= 0x55
	}
}

func wantTake(t *testing.T, b []byte, n uint64, size int, errno api.Errno) {
	t.Helper()
	given, unchanged := guarded(b)
	if m, k, e := vint.Take(given); m != n || k != size || e != errno {
		t.Errorf("Take(%x) = %d, %d, %d, not %d, %d, %d", b, m, k, e, n, size, errno)
	}
	unchanged(t)
}

// P2.1

func TestPutOfKnownNumbers(t *testing.T) {
	for _, c := range []struct {
		n    uint64
		want string
	}{
		{0, "00"}, {1, "01"}, {127, "7f"}, {128, "8001"}, {129, "8101"}, {300, "ac02"},
		{16383, "ff7f"}, {16384, "808001"}, {1<<63 - 1, "ffffffffffffffff7f"},
		{1 << 63, "80808080808080808001"}, {math.MaxUint64, "ffffffffffffffffff01"},
	} {
		want := unhex(t, c.want)
		if got := vint.Put(nil, c.n); !bytes.Equal(got, want) {
			t.Errorf("Put(nil, %d) = %x", c.n, got)
		}
		if got := vint.Put([]byte{}, c.n); !bytes.Equal(got, want) {
			t.Errorf("Put of the empty list and %d = %x", c.n, got)
		}
		if got := vint.Put([]byte{9, 8}, c.n); !bytes.Equal(got, append([]byte{9, 8}, want...)) {
			t.Errorf("Put(0908, %d) = %x", c.n, got)
		}
		if got := vint.Len(c.n); got != len(want) {
			t.Errorf("Len(%d) = %d", c.n, got)
		}
		wantTake(t, want, c.n, len(want), api.OK)
	}
}

func TestPutIsTheUvarint(t *testing.T) {
	for _, n := range numbers() {
		want := binary.AppendUvarint(nil, n)
		if got := vint.Put(nil, n); !bytes.Equal(got, want) || vint.Len(n) != len(want) {
			t.Errorf("Put(nil, %d) = %x, Len %d, not %x", n, got, vint.Len(n), want)
		}
	}
}

func TestTakeOfNoEnd(t *testing.T) {
	for size := range 300 {
		wantTake(t, bytes.Repeat([]byte{0x80}, size), 0, 0, api.ErrShort)
		wantTake(t, bytes.Repeat([]byte{0xff}, size), 0, 0, api.ErrShort)
	}
	wantTake(t, nil, 0, 0, api.ErrShort)
}

func TestTakeOfBadForms(t *testing.T) {
	for _, text := range []string{
		"8000", "ff00", "808000", "80808080808080808000", // a needless last byte
		"ffffffffffffffffff02", "8080808080808080807f", "80808080808080808003", // a 65th bit
		"8080808080808080808001", "8080808080808080808000", "ffffffffffffffffffff7f", // an eleventh byte
	} {
		wantTake(t, unhex(t, text), 0, 0, api.ErrForm)
		wantTake(t, unhex(t, text+"01"), 0, 0, api.ErrForm)
	}
	for size := 10; size < 200; size++ {
		wantTake(t, append(bytes.Repeat([]byte{0x80}, size), 1), 0, 0, api.ErrForm)
	}
}

func TestTakeLooksAtTheBeginningAlone(t *testing.T) {
	wantTake(t, unhex(t, "ac0207"), 300, 2, api.OK)
	wantTake(t, unhex(t, "0080"), 0, 1, api.OK)
	wantTake(t, unhex(t, "00"), 0, 1, api.OK)
	wantTake(t, unhex(t, "7f8000"), 127, 1, api.OK)
}

// P2.2

func TestFixedOfKnownNumbers(t *testing.T) {
	for _, c := range []struct {
		n    uint64
		size int
		want string
	}{
		{258, 2, "0102"}, {258, 1, "02"}, {258, 3, "000102"}, {0, 1, "00"}, {0, 8, "0000000000000000"},
		{0x1234567890, 3, "567890"}, {0x0102030405060708, 8, "0102030405060708"}, {math.MaxUint64, 8, "ffffffffffffffff"}, {math.MaxUint64, 1, "ff"},
	} {
		if got := vint.Fixed(nil, c.n, c.size); hex.EncodeToString(got) != c.want {
			t.Errorf("Fixed(nil, %d, %d) = %x", c.n, c.size, got)
		}
		if got := vint.Fixed([]byte{9, 8}, c.n, c.size); hex.EncodeToString(got) != "0908"+c.want {
			t.Errorf("Fixed(0908, %d, %d) = %x", c.n, c.size, got)
		}
	}
}

var badSizes = []int{0, -1, 9, 10, 64, -8, math.MinInt, math.MaxInt, math.MinInt + 1, 1 << 32, 1<<32 + 1}

func TestFixedOfBadSizes(t *testing.T) {
	for _, size := range badSizes {
		for _, b := range [][]byte{nil, {}, {7}, []byte("abc")} {
			given, unchanged := guarded(b)
			got := vint.Fixed(given, 5, size)
			if !bytes.Equal(got, b) {
				t.Errorf("Fixed(%x, 5, %d) = %x", b, size, got)
			}
			spoil(got)
			unchanged(t)
		}
	}
}

func TestReadOfKnownBytes(t *testing.T) {
	b := unhex(t, "f102030405060708aa")
	want := uint64(0xf102030405060708)
	for size := 1; size <= 8; size++ {
		if n, e := vint.Read(b, size); n != want>>(64-8*size) || e != api.OK {
			t.Errorf("Read(%x, %d) = %x, %d", b, size, n, e)
		}
		if n, e := vint.Read(b[:size], size); n != want>>(64-8*size) || e != api.OK {
			t.Errorf("Read(%x, %d) = %x, %d", b[:size], size, n, e)
		}
	}
}

func TestReadOfTooFewBytes(t *testing.T) {
	b := unhex(t, "f102030405060708aa")
	for size := 1; size <= 8; size++ {
		for short := range size {
			// b goes on behind the length: it must not be read.
			if n, e := vint.Read(b[:short], size); n != 0 || e != api.ErrShort {
				t.Errorf("Read(%x, %d) = %x, %d", b[:short], size, n, e)
			}
		}
		if n, e := vint.Read(nil, size); n != 0 || e != api.ErrShort {
			t.Errorf("Read(nil, %d) = %x, %d", size, n, e)
		}
	}
}

func TestReadOfBadSizes(t *testing.T) {
	for _, size := range badSizes {
		for _, b := range [][]byte{nil, {1}, bytes.Repeat([]byte{1}, 100)} {
			if n, e := vint.Read(b, size); n != 0 || e != api.ErrArg {
				t.Errorf("Read(%x, %d) = %x, %d", b, size, n, e)
			}
		}
	}
}

// P2.3

// lengths: each count of bytes from both of its ends.
var lengths = []struct {
	n    int
	want string
}{
	{0, "00"}, {1, "01"}, {127, "7f"}, {128, "8001"}, {321, "c102"}, {16383, "ff7f"}, {16384, "808001"},
	{2097151, "ffff7f"}, {2097152, "80808001"}, {268435454, "feffff7f"}, {268435455, "ffffff7f"},
}

func TestLengthOfKnownNumbers(t *testing.T) {
	for _, c := range lengths {
		if b, e := vint.Length(c.n); hex.EncodeToString(b) != c.want || e != api.OK {
			t.Errorf("Length(%d) = %x, %d", c.n, b, e)
		}
	}
}

func TestLengthOutOfBounds(t *testing.T) {
	for _, n := range []int{-1, -127, math.MinInt, 268435456, 268435457, 1 << 32, math.MaxInt} {
		if b, e := vint.Length(n); len(b) != 0 || e != api.ErrArg {
			t.Errorf("Length(%d) = %x, %d", n, b, e)
		}
	}
}

func wantTakeLength(t *testing.T, b []byte, n, size int, errno api.Errno) {
	t.Helper()
	given, unchanged := guarded(b)
	if m, k, e := vint.TakeLength(given); m != n || k != size || e != errno {
		t.Errorf("TakeLength(%x) = %d, %d, %d, not %d, %d, %d", b, m, k, e, n, size, errno)
	}
	unchanged(t)
}

func TestTakeLengthOfFourHighBits(t *testing.T) {
	for _, text := range []string{"80808080", "ffffffff", "8080808000", "ffffffff01", "8080808080", "818283840506"} {
		wantTakeLength(t, unhex(t, text), 0, 0, api.ErrForm)
	}
}

func TestTakeLengthOfTooFewBytes(t *testing.T) {
	for _, text := range []string{"", "80", "ff", "8080", "ffff", "808080", "ffffff"} {
		wantTakeLength(t, unhex(t, text), 0, 0, api.ErrShort)
	}
	wantTakeLength(t, nil, 0, 0, api.ErrShort)
}

func TestTakeLengthLetsNeedlessBytesBe(t *testing.T) {
	wantTakeLength(t, unhex(t, "8000"), 0, 2, api.OK)
	wantTakeLength(t, unhex(t, "808000"), 0, 3, api.OK)
	wantTakeLength(t, unhex(t, "80808000"), 0, 4, api.OK)
	wantTakeLength(t, unhex(t, "81808000"), 1, 4, api.OK)
	wantTakeLength(t, unhex(t, "ff0009"), 127, 2, api.OK)
}

// P2.4

func wantTakeBytes(t *testing.T, b []byte, most int, s []byte, size int, errno api.Errno) {
	t.Helper()
	given, unchanged := guarded(b)
	got, k, e := vint.TakeBytes(given, most)
	if !bytes.Equal(got, s) || k != size || e != errno {
		t.Errorf("TakeBytes(%x, %d) = %x, %d, %d, not %x, %d, %d", b, most, got, k, e, s, size, errno)
	}
	spoil(got)
	unchanged(t)
}

func TestPutBytesOfKnownBytes(t *testing.T) {
	for _, size := range []int{0, 1, 3, 127, 128, 300, 20000} {
		s := bytes.Repeat([]byte{0xa7}, size)
		want := append(binary.AppendUvarint(nil, uint64(size)), s...)
		if got := vint.PutBytes(nil, s); !bytes.Equal(got, want) {
			t.Errorf("PutBytes of %d bytes: %x", size, got)
		}
		if got := vint.PutBytes([]byte("xy"), s); !bytes.Equal(got, append([]byte("xy"), want...)) {
			t.Errorf("PutBytes behind xy of %d bytes: %x", size, got)
		}
	}
	if got := vint.PutBytes(nil, nil); !bytes.Equal(got, []byte{0}) {
		t.Errorf("PutBytes(nil, nil) = %x", got)
	}
}

func TestTakeBytesAtMostAndAbove(t *testing.T) {
	for _, size := range []int{0, 1, 3, 127, 128, 300} {
		s := bytes.Repeat([]byte{0xa7}, size)
		b := vint.PutBytes(nil, s)
		for _, most := range []int{size, size + 1, math.MaxInt} {
			wantTakeBytes(t, b, most, s, len(b), api.OK)
			wantTakeBytes(t, append(bytes.Clone(b), 1, 2), most, s, len(b), api.OK)
		}
		wantTakeBytes(t, b, size-1, nil, 0, api.ErrLong)
		for _, most := range []int{-1, -300, math.MinInt} {
			wantTakeBytes(t, b, most, nil, 0, api.ErrLong)
		}
		for short := range len(b) {
			wantTakeBytes(t, b[:short], size, nil, 0, api.ErrShort)
		}
	}
}

func TestTakeBytesTellsTheFirstError(t *testing.T) {
	wantTakeBytes(t, nil, -1, nil, 0, api.ErrShort) // no number, ahead of most
	wantTakeBytes(t, unhex(t, "80"), -1, nil, 0, api.ErrShort)
	wantTakeBytes(t, unhex(t, "8000"), -1, nil, 0, api.ErrForm)
	wantTakeBytes(t, unhex(t, "8000"), 9, nil, 0, api.ErrForm)
	wantTakeBytes(t, unhex(t, "036162"), 2, nil, 0, api.ErrLong) // too long, ahead of too short
	wantTakeBytes(t, unhex(t, "036162"), 3, nil, 0, api.ErrShort)
	wantTakeBytes(t, unhex(t, "00"), -1, nil, 0, api.ErrLong)
	wantTakeBytes(t, unhex(t, "ffffffffffffffffff02"), 9, nil, 0, api.ErrForm)
}

func TestTakeBytesOfHugeLengths(t *testing.T) {
	for _, n := range []uint64{math.MaxInt64 - 1, math.MaxInt64, 1 << 63, math.MaxUint64 - 9, math.MaxUint64} {
		b := append(vint.Put(nil, n), "abcdef"...)
		errno := api.ErrShort
		if n > math.MaxInt64 {
			errno = api.ErrLong
		}
		wantTakeBytes(t, b, math.MaxInt, nil, 0, errno)
		wantTakeBytes(t, b, 1000, nil, 0, api.ErrLong)
	}
}

// P2.5

func TestTakeOfPut(t *testing.T) {
	for _, n := range numbers() {
		b := vint.Put(nil, n)
		for _, behind := range []string{"", "\x00", "\x80", "\xff\xff", "\x01\x80\x00"} {
			wantTake(t, append(bytes.Clone(b), behind...), n, vint.Len(n), api.OK)
		}
		for short := range len(b) {
			wantTake(t, b[:short], 0, 0, api.ErrShort)
		}
	}
}

func TestTakeLengthOfLength(t *testing.T) {
	for _, c := range lengths {
		b, _ := vint.Length(c.n)
		for _, behind := range []string{"", "\x00", "\x80", "\xff\xff\xff\xff\xff"} {
			wantTakeLength(t, append(bytes.Clone(b), behind...), c.n, len(c.want)/2, api.OK)
		}
		for short := range len(b) {
			wantTakeLength(t, b[:short], 0, 0, api.ErrShort)
		}
	}
}

func TestReadOfFixed(t *testing.T) {
	for _, n := range numbers() {
		for size := 1; size <= 8; size++ {
			want := n
			if size < 8 {
				want = n % (1 << (8 * size))
			}
			b := vint.Fixed(nil, n, size)
			if got, e := vint.Read(append(b, 0xff), size); got != want || len(b) != size || e != api.OK {
				t.Errorf("Read of Fixed of %x, %d = %x, %d", n, size, got, e)
			}
		}
	}
}

func TestAnswersAreNewMemory(t *testing.T) {
	for _, b := range [][]byte{nil, {7}, []byte("abcdefgh")} {
		given, unchanged := guarded(b)
		s, sUnchanged := guarded([]byte("xyz"))
		for _, answer := range [][]byte{
			vint.Put(given, 5), vint.Put(given, math.MaxUint64),
			vint.Fixed(given, math.MaxUint64, 1), vint.Fixed(given, math.MaxUint64, 8),
			vint.PutBytes(given, s), vint.PutBytes(given, nil), vint.PutBytes(given, given), vint.PutBytes(nil, s),
		} {
			unchanged(t)
			spoil(answer)
			unchanged(t)
			sUnchanged(t)
		}
	}
}

// P2.6

func TestSmallNumbersHaveOneByte(t *testing.T) {
	for n := range uint64(128) {
		if b := vint.Put(nil, n); len(b) != 1 || b[0] != byte(n) || vint.Len(n) != 1 {
			t.Errorf("Put(nil, %d) = %x, Len %d", n, b, vint.Len(n))
		}
	}
	if vint.Len(128) != 2 {
		t.Errorf("Len(128) = %d", vint.Len(128))
	}
}

func TestLenNeverFalls(t *testing.T) {
	last := 0
	for bit := range 64 {
		for _, n := range []uint64{1<<bit - 1, 1 << bit, 1<<bit + 1<<bit/2, 1<<bit + (1<<bit - 1)} {
			size := vint.Len(n)
			if size < last || size > last+1 {
				t.Errorf("Len(%d) = %d behind %d", n, size, last)
			}
			last = size
		}
	}
	if last != 10 {
		t.Errorf("the greatest number has %d bytes", last)
	}
}
