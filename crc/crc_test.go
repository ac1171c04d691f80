package crc_test

import (
	"bytes"
	"hash/crc32"
	"math"
	"math/rand"
	"testing"

	"halyard/crc"
)

// bitwise is P3.1's own words, step by step, to hold the package against.
func bitwise(b []byte) uint32 {
	number := uint32(0xffffffff)
	for _, c := range b {
		number ^= uint32(c)
		for range 8 {
			over := number % 2
			number /= 2
			if over == 1 {
				number ^= 0x82f63b78
			}
		}
	}
	return number ^ 0xffffffff
}

// row is a row of n bytes that look like nothing in particular, the same for the same seed.
func row(seed int64, n int) []byte {
	b := make([]byte, n)
	rand.New(rand.NewSource(seed)).Read(b)
	return b
}

// guarded is b with room behind its length, and a look whether all of it stayed as it was.
func guarded(b []byte) ([]byte, func(t *testing.T)) {
	whole := append(append([]byte{}, b...), bytes.Repeat([]byte{0xee}, 40)...)
	before := bytes.Clone(whole)
	return whole[:len(b)], func(t *testing.T) {
		t.Helper()
		if !bytes.Equal(whole, before) {
			t.Errorf("the argument %x became %x", before, whole)
		}
	}
}

func wantSum(t *testing.T, b []byte, want uint32) {
	t.Helper()
	given, unchanged := guarded(b)
	if got := crc.Sum(given); got != want {
		t.Errorf("Sum of %d bytes %.40x = %08x, not %08x", len(b), b, got, want)
	}
	unchanged(t)
}

func wantMore(t *testing.T, sum uint32, b []byte, want uint32) {
	t.Helper()
	given, unchanged := guarded(b)
	if got := crc.More(sum, given); got != want {
		t.Errorf("More(%08x, %d bytes %.40x) = %08x, not %08x", sum, len(b), b, got, want)
	}
	unchanged(t)
}

// P3.1

func TestSumOfKnownBytes(t *testing.T) {
	rising, falling := make([]byte, 32), make([]byte, 32)
	for i := range rising {
		rising[i], falling[31-i] = byte(i), byte(i)
	}
	for _, c := range []struct {
		b    []byte
		want uint32
	}{
		{[]byte("123456789"), 0xe3069283},
		{[]byte{0}, 0x527d5351},
		{[]byte("a"), 0xc1d04330},
		{bytes.Repeat([]byte{0}, 32), 0x8a9136aa},
		{bytes.Repeat([]byte{255}, 32), 0x62a8ab43},
		{rising, 0x46dd794e},
		{falling, 0x113fdb5c},
	} {
		wantSum(t, c.b, c.want)
	}
}

func TestSumOfNoBytes(t *testing.T) {
	if crc.Sum(nil) != 0 || crc.Sum([]byte{}) != 0 {
		t.Errorf("Sum of no bytes: %08x, %08x", crc.Sum(nil), crc.Sum([]byte{}))
	}
	wantSum(t, nil, 0)
}

func TestSumOfEachByte(t *testing.T) {
	for v := range 256 {
		b := []byte{byte(v)}
		wantSum(t, b, bitwise(b))
	}
}

func TestSumOfEveryLength(t *testing.T) {
	castagnoli := crc32.MakeTable(crc32.Castagnoli)
	for n := range 600 {
		b := row(int64(n), n)
		wantSum(t, b, bitwise(b))
		wantSum(t, b, crc32.Checksum(b, castagnoli))
	}
}

func TestSumOfLongRows(t *testing.T) {
	castagnoli := crc32.MakeTable(crc32.Castagnoli)
	for _, v := range []byte{0, 255} {
		for _, n := range []int{2, 3, 4, 5, 7, 8, 9, 255, 256, 257, 4095, 4096, 65536, 1 << 20} {
			b := bytes.Repeat([]byte{v}, n)
			wantSum(t, b, crc32.Checksum(b, castagnoli))
		}
	}
}

func TestSumTellsTheSameAgain(t *testing.T) {
	b := row(7, 300)
	first := crc.Sum(b)
	crc.Sum([]byte("between"))
	if crc.Sum(b) != first {
		t.Error("the same bytes have another sum")
	}
}

// P3.2

func TestMoreBehindKnownSums(t *testing.T) {
	wantMore(t, 0, []byte("123456789"), 0xe3069283)
	wantMore(t, bitwise([]byte("1234")), []byte("56789"), 0xe3069283)
	wantMore(t, 0xe3069283, nil, 0xe3069283)
	wantMore(t, math.MaxUint32, []byte{0}, math.MaxUint32)
	wantMore(t, math.MaxUint32, []byte{1}, 0x0d947cfc)
}

// Of a sum any number may be told: each is the Sum of some four bytes, here found by going back from it.
func fourBytesOf(sum uint32) []byte {
	state := ^sum
	for range 32 {
		if state>>31 == 1 {
			state = (state^0x82f63b78)<<1 | 1
		} else {
			state <<= 1
		}
	}
	state = ^state
	return []byte{byte(state), byte(state >> 8), byte(state >> 16), byte(state >> 24)}
}

func TestMoreBehindAnySum(t *testing.T) {
	for _, sum := range []uint32{0, 1, 2, 0x7fffffff, 0x80000000, 0xa282ead8, 0xe3069283, 0xfffffffe, math.MaxUint32} {
		ahead := fourBytesOf(sum)
		wantSum(t, ahead, sum)
		for n := range 40 {
			b := row(int64(n)+1000, n)
			wantMore(t, sum, b, bitwise(append(bytes.Clone(ahead), b...)))
		}
	}
}

func TestMoreOfNoBytes(t *testing.T) {
	for _, sum := range sums() {
		if crc.More(sum, nil) != sum || crc.More(sum, []byte{}) != sum {
			t.Errorf("More(%08x, no bytes) = %08x", sum, crc.More(sum, nil))
		}
	}
}

// sums: those that the document names, both ends, each bit alone, and many between.
func sums() []uint32 {
	all := []uint32{0, 1, 0x7fff, 0x8000, 0x1ffff, 0x20000, 0x5d7d1527, 0x5d7d1528, 0xa282ead7, 0xa282ead8, 0xa282ead9, 0xe3069283, math.MaxUint32 - 1, math.MaxUint32}
	for bit := range 32 {
		all = append(all, 1<<bit, ^(uint32(1) << bit))
	}
	from := rand.New(rand.NewSource(3))
	for range 2000 {
		all = append(all, from.Uint32())
	}
	return all
}

func TestMaskOfKnownSums(t *testing.T) {
	for _, c := range []struct{ sum, want uint32 }{
		{0, 0xa282ead8},
		{1, 0xa284ead8},
		{0x8000, 0xa282ead9},
		{0xa282ead8, 0x78342fdd},
		{0xe3069283, 0xc78ab0e5},
		{math.MaxUint32, 0xa282ead7},
	} {
		if got := crc.Mask(c.sum); got != c.want {
			t.Errorf("Mask(%08x) = %08x, not %08x", c.sum, got, c.want)
		}
		if got := crc.Unmask(c.want); got != c.sum {
			t.Errorf("Unmask(%08x) = %08x, not %08x", c.want, got, c.sum)
		}
	}
}

func TestMaskByItsWords(t *testing.T) {
	for _, x := range sums() {
		turned := uint64(x>>15) + uint64(x%(1<<15))<<17
		if want := uint32((turned + 0xa282ead8) % (1 << 32)); crc.Mask(x) != want {
			t.Errorf("Mask(%08x) = %08x, not %08x", x, crc.Mask(x), want)
		}
	}
}

// Unmask of 0, 1, a282ead8 and 2^32 - 1: what Mask makes of its answer must be the number again, and no other number's.
func TestUnmaskOfKnownNumbers(t *testing.T) {
	for _, c := range []struct{ masked, want uint32 }{
		{0, 0x8a942ebe},
		{1, 0x8a94aebe},
		{0xa282ead8, 0},
		{math.MaxUint32, 0x8a93aebe},
	} {
		if got := crc.Unmask(c.masked); got != c.want {
			t.Errorf("Unmask(%08x) = %08x, not %08x", c.masked, got, c.want)
		}
	}
}

// P3.3

func TestMoreOfPiecesIsTheSumOfAll(t *testing.T) {
	for _, n := range []int{1, 2, 3, 4, 5, 8, 9, 31, 64, 200, 333} {
		b := row(int64(n)+50, n)
		for cut := range n + 1 {
			wantMore(t, crc.Sum(b[:cut]), b[cut:], bitwise(b))
		}
	}
}

func TestMoreOfManyPieces(t *testing.T) {
	b := row(11, 257)
	for size := 1; size <= len(b); size++ {
		sum := uint32(0)
		for from := 0; from < len(b); from += size {
			sum = crc.More(sum, b[from:min(from+size, len(b))])
		}
		if sum != crc.Sum(b) {
			t.Errorf("in pieces of %d: %08x, not %08x", size, sum, crc.Sum(b))
		}
	}
}

func TestMoreBehindNothingIsTheSum(t *testing.T) {
	for n := range 300 {
		b := row(int64(n)+400, n)
		wantMore(t, 0, b, bitwise(b))
		if crc.More(0, b) != crc.Sum(b) {
			t.Errorf("More(0, b) and Sum(b) differ for %d bytes", n)
		}
	}
}

func TestUnmaskTakesMaskBack(t *testing.T) {
	for _, x := range sums() {
		if crc.Unmask(crc.Mask(x)) != x {
			t.Errorf("Unmask(Mask(%08x)) = %08x", x, crc.Unmask(crc.Mask(x)))
		}
		if crc.Mask(crc.Unmask(x)) != x {
			t.Errorf("Mask(Unmask(%08x)) = %08x", x, crc.Mask(crc.Unmask(x)))
		}
	}
}

// wantUnlike changes the bytes of b from at on by exclusive or with change, and asks for another sum.
func wantUnlike(t *testing.T, b []byte, at int, change []byte) {
	t.Helper()
	other := bytes.Clone(b)
	for i, c := range change {
		other[at+i] ^= c
	}
	if crc.Sum(other) == crc.Sum(b) {
		t.Errorf("%x and %x have one sum %08x", b, other, crc.Sum(b))
	}
}

func TestOneByteChangesTheSum(t *testing.T) {
	for _, n := range []int{1, 2, 5, 40} {
		b := row(int64(n)+70, n)
		for at := range n {
			for v := 1; v < 256; v++ {
				wantUnlike(t, b, at, []byte{byte(v)})
			}
		}
	}
}

func TestUpToFourBytesSideBySideChangeTheSum(t *testing.T) {
	from := rand.New(rand.NewSource(5))
	rows := [][]byte{row(90, 4), row(91, 5), row(92, 60), bytes.Repeat([]byte{0}, 50), bytes.Repeat([]byte{255}, 50)}
	for _, b := range rows {
		for wide := 1; wide <= 4; wide++ {
			for at := range len(b) - wide + 1 {
				for range 200 {
					change := make([]byte, wide)
					from.Read(change)
					change[from.Intn(wide)] |= 1 << from.Intn(8)
					wantUnlike(t, b, at, change)
				}
			}
		}
	}
}

// The polynomial itself is the first change that a sum of fewer bits would miss: all 32-bit changes with two set bits, and its own bits.
func TestPairsOfBitsChangeTheSum(t *testing.T) {
	b := row(13, 20)
	for one := range 32 {
		for two := range one + 1 {
			change := uint32(1)<<one | uint32(1)<<two
			wantUnlike(t, b, 7, []byte{byte(change), byte(change >> 8), byte(change >> 16), byte(change >> 24)})
		}
	}
	wantUnlike(t, b, 7, []byte{0x78, 0x3b, 0xf6, 0x82})
}
