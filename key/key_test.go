package key_test

import (
	"bytes"
	"cmp"
	"encoding/binary"
	"math"
	"math/rand"
	"slices"
	"testing"

	"halyard/api"
	"halyard/key"
)

// partOf is P7.1's own words of a part, to hold the package against.
func partOf(part []byte) []byte {
	out := bytes.ReplaceAll(part, []byte{0}, []byte{0, 0xff})
	return append(bytes.Clone(out), 0, 1)
}

// numberOf is P7.1's own words of a number: counted from the least one on, it is n's place.
func numberOf(n int64) []byte {
	return binary.BigEndian.AppendUint64(nil, uint64(n)+1<<63)
}

// order is R5's own words: byte by byte, a beginning ahead of what goes on.
func order(a, b []byte) int {
	for i := 0; i < len(a) && i < len(b); i++ {
		if a[i] != b[i] {
			return cmp.Compare(int(a[i]), int(b[i]))
		}
	}
	return cmp.Compare(len(a), len(b))
}

// row is a row of n bytes that look like nothing in particular, the same for the same seed.
func row(seed int64, n int) []byte {
	b := make([]byte, n)
	rand.New(rand.NewSource(seed)).Read(b)
	return b
}

func join(parts ...[]byte) []byte { return bytes.Join(parts, nil) }

// guarded is b with room behind its length, and a look whether all of it stayed as it was.
func guarded(b []byte) ([]byte, func(t *testing.T)) {
	whole := append(append([]byte{}, b...), bytes.Repeat([]byte{0xee}, 40)...)
	before := bytes.Clone(whole)
	return whole[:len(b)], func(t *testing.T) {
		t.Helper()
		if !bytes.Equal(whole, before) {
			t.Errorf("the argument %.40x was changed", b)
		}
	}
}

// overwrite changes each byte that the slice reaches, also those behind its length.
func overwrite(b []byte) {
	b = b[:cap(b)]
	for i := range b {
		b[i] ^= 0xff
	}
}

// rowsOver are all rows of at most n of the given bytes.
func rowsOver(alphabet []byte, n int) [][]byte {
	all := [][]byte{nil}
	last := all
	for range n {
		var longer [][]byte
		for _, r := range last {
			for _, c := range alphabet {
				longer = append(longer, append(bytes.Clone(r), c))
			}
		}
		all = append(all, longer...)
		last = longer
	}
	return all
}

// shortParts hold every way in which the bytes that mean something, and their neighbours, can stand beside each other.
func shortParts() [][]byte {
	return rowsOver([]byte{0, 1, 2, 'a', 0xfe, 0xff}, 4)
}

func edgeParts() [][]byte {
	parts := [][]byte{nil, {}, make([]byte, 1), make([]byte, 2), make([]byte, 513), bytes.Repeat([]byte{0xff}, 300), bytes.Repeat([]byte{0, 1}, 50), bytes.Repeat([]byte{0, 0xff}, 50), bytes.Repeat([]byte{1, 0}, 50), bytes.Repeat([]byte{0xff, 0}, 50), []byte("a\x00b"), row(1, 2000)}
	for c := range 256 {
		parts = append(parts, []byte{byte(c)}, []byte{byte(c), 0}, []byte{0, byte(c)})
	}
	return parts
}

func edgeNumbers() []int64 {
	numbers := []int64{math.MinInt64, math.MinInt64 + 1, -2, -1, 0, 1, 2, math.MaxInt64 - 1, math.MaxInt64}
	for shift := range 63 {
		n := int64(1) << shift
		numbers = append(numbers, n-1, n, n+1, -n-1, -n, -n+1)
	}
	return numbers
}

func aheads() [][]byte {
	return [][]byte{nil, {}, {0}, {0, 1}, {0, 0xff}, {0xff}, []byte("k"), partOf([]byte("ahead\x00")), numberOf(-5), row(2, 1000)}
}

func wantBytes(t *testing.T, b, part []byte) {
	t.Helper()
	givenB, sameB := guarded(b)
	givenPart, samePart := guarded(part)
	got := key.Bytes(givenB, givenPart)
	if want := join(b, partOf(part)); !bytes.Equal(got, want) {
		t.Errorf("Bytes(%.20x, %.40x) = %.60x, not %.60x", b, part, got, want)
	}
	overwrite(got)
	sameB(t)
	samePart(t)
}

func wantNumber(t *testing.T, b []byte, n int64) {
	t.Helper()
	given, same := guarded(b)
	got := key.Number(given, n)
	if want := join(b, numberOf(n)); !bytes.Equal(got, want) {
		t.Errorf("Number(%.20x, %d) = %.40x, not %.40x", b, n, got, want)
	}
	overwrite(got)
	same(t)
}

func wantPart(t *testing.T, b, part []byte, size int) {
	t.Helper()
	given, same := guarded(b)
	got, n, errno := key.TakeBytes(given)
	if errno != api.OK || n != size || !bytes.Equal(got, part) {
		t.Errorf("TakeBytes(%.60x) = %.40x, %d, %d, not %.40x, %d", b, got, n, errno, part, size)
	}
	overwrite(got)
	same(t)
}

func wantNoPart(t *testing.T, b []byte, want api.Errno) {
	t.Helper()
	given, same := guarded(b)
	got, n, errno := key.TakeBytes(given)
	if errno != want || n != 0 || got != nil {
		t.Errorf("TakeBytes(%.60x) = %.40x, %d, %d, not the error %d alone", b, got, n, errno, want)
	}
	same(t)
}

func wantAfter(t *testing.T, prefix, want []byte, ok bool) {
	t.Helper()
	given, same := guarded(prefix)
	got, told := key.After(given)
	if told != ok || !bytes.Equal(got, want) || !ok && got != nil {
		t.Errorf("After(%.40x) = %.40x, %v, not %.40x, %v", prefix, got, told, want, ok)
	}
	overwrite(got)
	same(t)
}

func wantCompare(t *testing.T, a, b []byte, want int) {
	t.Helper()
	givenA, sameA := guarded(a)
	givenB, sameB := guarded(b)
	if got := key.Compare(givenA, givenB); got != want {
		t.Errorf("Compare(%.40x, %.40x) = %d, not %d", a, b, got, want)
	}
	sameA(t)
	sameB(t)
}

// P7.1

func TestBytesOfKnownParts(t *testing.T) {
	for _, c := range []struct{ part, want string }{
		{"a\x00", "a\x00\xff\x00\x01"},
		{"", "\x00\x01"},
		{"a", "a\x00\x01"},
		{"\x00", "\x00\xff\x00\x01"},
		{"\x00\x00\x00", "\x00\xff\x00\xff\x00\xff\x00\x01"},
		{"\x00a", "\x00\xffa\x00\x01"},
		{"a\x00b", "a\x00\xffb\x00\x01"},
		{"\x00\x01", "\x00\xff\x01\x00\x01"},
		{"\x01\x00", "\x01\x00\xff\x00\x01"},
		{"\x00\xff", "\x00\xff\xff\x00\x01"},
		{"\xff\x00", "\xff\x00\xff\x00\x01"},
		{"\xff\x01", "\xff\x01\x00\x01"},
	} {
		if got := key.Bytes(nil, []byte(c.part)); string(got) != c.want {
			t.Errorf("Bytes(nil, %q) = %q, not %q", c.part, got, c.want)
		}
	}
}

func TestBytesOfAllShortPartsAndTheEdges(t *testing.T) {
	for _, part := range append(shortParts(), edgeParts()...) {
		wantBytes(t, nil, part)
	}
}

func TestBytesBehindAnyBytes(t *testing.T) {
	for _, b := range aheads() {
		for _, part := range [][]byte{nil, {}, {0}, []byte("a"), []byte("\x00a\x00"), row(3, 600)} {
			wantBytes(t, b, part)
		}
	}
}

func TestBytesOfNilIsBytesOfNoBytes(t *testing.T) {
	if of, also := key.Bytes(nil, nil), key.Bytes([]byte{}, []byte{}); string(of) != "\x00\x01" || string(also) != "\x00\x01" {
		t.Errorf("%x, %x", of, also)
	}
}

func TestNumberOfKnownNumbers(t *testing.T) {
	for n, want := range map[int64]string{
		-1:             "\x7f\xff\xff\xff\xff\xff\xff\xff",
		0:              "\x80\x00\x00\x00\x00\x00\x00\x00",
		1:              "\x80\x00\x00\x00\x00\x00\x00\x01",
		258:            "\x80\x00\x00\x00\x00\x00\x01\x02",
		math.MinInt64:  "\x00\x00\x00\x00\x00\x00\x00\x00",
		math.MaxInt64:  "\xff\xff\xff\xff\xff\xff\xff\xff",
		0x123456789abc: "\x80\x00\x12\x34\x56\x78\x9a\xbc",
	} {
		if got := key.Number(nil, n); string(got) != want {
			t.Errorf("Number(nil, %d) = %x, not %x", n, got, want)
		}
	}
}

func TestNumberBehindAnyBytes(t *testing.T) {
	for _, b := range aheads() {
		for _, n := range edgeNumbers() {
			wantNumber(t, b, n)
		}
	}
}

func TestWhatIsPutIsMemoryOfItsOwn(t *testing.T) {
	room := append(make([]byte, 0, 500), "ahead"...)
	one, two := key.Bytes(room, []byte("one")), key.Bytes(room, []byte("two"))
	three, four := key.Number(room, 3), key.Number(room, 4)
	overwrite(room)
	for i, want := range []string{"ahead" + string(partOf([]byte("one"))), "ahead" + string(partOf([]byte("two"))), "ahead" + string(numberOf(3)), "ahead" + string(numberOf(4))} {
		if got := [][]byte{one, two, three, four}[i]; string(got) != want {
			t.Errorf("%q, not %q", got, want)
		}
	}
	part := []byte("abc")
	told := key.Bytes(nil, part)
	overwrite(part)
	if string(told) != "abc\x00\x01" {
		t.Errorf("what was told became %q with the part", told)
	}
	b := append(make([]byte, 0, 100), "both\x00"...)
	if got := key.Bytes(b, b); string(got) != "both\x00both\x00\xff\x00\x01" || string(b) != "both\x00" {
		t.Errorf("Bytes(b, b) = %q, and b is %q", got, b)
	}
}

// P7.2

func TestTakeBytesOfParts(t *testing.T) {
	for _, part := range append(shortParts(), edgeParts()...) {
		whole := partOf(part)
		wantPart(t, whole, part, len(whole))
	}
}

func TestTakeBytesThatEndWithinAPart(t *testing.T) {
	wantNoPart(t, nil, api.ErrShort)
	wantNoPart(t, []byte{}, api.ErrShort)
	for _, part := range append(shortParts(), []byte("a\x00\x00b"), row(4, 600)) {
		whole := partOf(part)
		for cut := range whole {
			// The bytes behind the length would end the part; they may not be read.
			if got, n, errno := key.TakeBytes(whole[:cut]); errno != api.ErrShort || n != 0 || got != nil {
				t.Errorf("TakeBytes(%.40x) = %.40x, %d, %d", whole[:cut], got, n, errno)
			}
			wantNoPart(t, bytes.Clone(whole[:cut]), api.ErrShort)
		}
	}
}

func TestTakeBytesRightBehindANought(t *testing.T) {
	for _, b := range []string{"\x00", "a\x00", "\x00\xff\x00", "\x00\xff", "a\x00\xffb\x00", "\x01", "\xff", "\x01\x00"} {
		wantNoPart(t, []byte(b), api.ErrShort)
	}
}

func TestTakeBytesOfANoughtWithAnotherByteBehind(t *testing.T) {
	for c := range 256 {
		if c == 1 || c == 0xff {
			continue
		}
		for _, ahead := range []string{"", "a", "\x00\xff", "a\x00\xffb", "\xff", "\x01"} {
			bad := append([]byte(ahead), 0, byte(c))
			wantNoPart(t, bad, api.ErrForm)
			// What follows makes no difference: neither an end nor a good part.
			wantNoPart(t, append(bad, 0, 1), api.ErrForm)
			wantNoPart(t, append(bad, "more"...), api.ErrForm)
		}
	}
}

// A wrong byte behind the part's end is none of the part's.
func TestTakeBytesLooksNoFurtherThanThePart(t *testing.T) {
	for _, behind := range []string{"\x00", "\x00\x02", "\x00\x00", "\x01", "\xff", "\x00\x01", "\x00\xff", "a"} {
		wantPart(t, []byte("ab\x00\x01"+behind), []byte("ab"), 4)
		wantPart(t, []byte("\x00\x01"+behind), nil, 2)
		wantPart(t, []byte("\x00\xff\x00\x01"+behind), []byte{0}, 4)
	}
}

func TestTakeBytesTellsMemoryOfItsOwn(t *testing.T) {
	b := []byte("abc\x00\x01def\x00\x01")
	part, size, _ := key.TakeBytes(b)
	again, _, _ := key.TakeBytes(b)
	overwrite(again)
	_ = append(part, "behind"...)
	if string(b) != "abc\x00\x01def\x00\x01" || size != 5 {
		t.Errorf("what was handed in became %q", b)
	}
	overwrite(b)
	if string(part) != "abc" {
		t.Errorf("the part became %q", part)
	}
}

func TestTakeNumber(t *testing.T) {
	for _, n := range edgeNumbers() {
		for _, behind := range [][]byte{nil, {0}, {0xff}, numberOf(7)} {
			given, same := guarded(join(numberOf(n), behind))
			if got, errno := key.TakeNumber(given); got != n || errno != api.OK {
				t.Errorf("TakeNumber(%x) = %d, %d, not %d", given, got, errno, n)
			}
			same(t)
		}
	}
}

func TestTakeNumberOfTooFewBytes(t *testing.T) {
	for _, whole := range [][]byte{numberOf(math.MinInt64), numberOf(-1), numberOf(0), numberOf(math.MaxInt64), row(5, 8)} {
		for cut := range 8 {
			if got, errno := key.TakeNumber(whole[:cut]); got != 0 || errno != api.ErrShort {
				t.Errorf("TakeNumber(%x) = %d, %d", whole[:cut], got, errno)
			}
		}
	}
	if got, errno := key.TakeNumber(nil); got != 0 || errno != api.ErrShort {
		t.Errorf("TakeNumber(nil) = %d, %d", got, errno)
	}
}

// P7.3

func TestAfterOfKnownPrefixes(t *testing.T) {
	for _, c := range []struct{ prefix, want string }{
		{"a\xff", "b"},
		{"a", "b"},
		{"ab", "ac"},
		{"a\xff\xff\xff", "b"},
		{"a\xfe", "a\xff"},
		{"\xfe", "\xff"},
		{"\xfe\xff", "\xff"},
		{"\xff\xfe", "\xff\xff"},
		{"\xff\x00", "\xff\x01"},
		{"\xffa\xff", "\xffb"},
		{"a\xffb", "a\xffc"},
		{"\x00", "\x01"},
		{"\x00\x00", "\x00\x01"},
		{"\x00\xff", "\x01"},
		{"a\x00", "a\x01"},
	} {
		wantAfter(t, []byte(c.prefix), []byte(c.want), true)
	}
}

func TestAfterWhereThereIsNone(t *testing.T) {
	wantAfter(t, nil, nil, false)
	wantAfter(t, []byte{}, nil, false)
	for _, n := range []int{1, 2, 3, 8, 1000} {
		wantAfter(t, bytes.Repeat([]byte{0xff}, n), nil, false)
	}
}

// The least is looked for one by one; among short rows none with the prefix is greater than the prefix with many ff behind it.
func TestAfterIsTheLeastOfAllShortRows(t *testing.T) {
	rows := rowsOver([]byte{0, 1, 0xfe, 0xff}, 3)
	slices.SortFunc(rows, order)
	for _, prefix := range rowsOver([]byte{0, 0xfe, 0xff}, 3) {
		furthest := append(bytes.Clone(prefix), bytes.Repeat([]byte{0xff}, 6)...)
		at := slices.IndexFunc(rows, func(r []byte) bool { return order(r, furthest) > 0 })
		if at < 0 {
			wantAfter(t, prefix, nil, false)
			continue
		}
		wantAfter(t, prefix, rows[at], true)
	}
}

func TestAfterTellsMemoryOfItsOwn(t *testing.T) {
	prefix := []byte("abc")
	after, _ := key.After(prefix)
	overwrite(prefix)
	if string(after) != "abd" {
		t.Errorf("After became %q with the prefix", after)
	}
}

// P7.4

func TestCompareOfKnownBytes(t *testing.T) {
	for _, c := range []struct {
		a, b string
		want int
	}{
		{"", "", 0}, {"", "\x00", -1}, {"", "a", -1}, {"a", "", 1},
		{"a", "a", 0}, {"a", "b", -1}, {"b", "a", 1},
		{"a", "aa", -1}, {"aa", "a", 1}, {"a", "a\x00", -1}, {"a\x00", "a", 1},
		{"aa", "b", -1}, {"b", "aa", 1}, {"a\xff", "b", -1},
		{"\x7f", "\x80", -1}, {"\xff", "\x00", 1}, {"\xff", "\x7f", 1}, {"\x00\xff", "\x01", -1},
	} {
		wantCompare(t, []byte(c.a), []byte(c.b), c.want)
	}
	wantCompare(t, nil, []byte{}, 0)
	wantCompare(t, []byte{}, nil, 0)
	wantCompare(t, nil, nil, 0)
	wantCompare(t, nil, []byte{0}, -1)
}

func TestCompareOfAllShortRows(t *testing.T) {
	rows := rowsOver([]byte{0, 1, 0x7f, 0x80, 0xff}, 3)
	for _, a := range rows {
		for _, b := range rows {
			wantCompare(t, a, b, order(a, b))
		}
	}
}

func TestCompareOfLongRows(t *testing.T) {
	long := row(6, 5000)
	wantCompare(t, long, bytes.Clone(long), 0)
	wantCompare(t, long, long, 0)
	wantCompare(t, long, long[:4999], 1)
	wantCompare(t, long[:4999], long, -1)
	greater := bytes.Clone(long)
	greater[4998] = 0xff
	long[4998] = 0xfe
	wantCompare(t, long, greater, -1)
	wantCompare(t, greater, long, 1)
}

// P7.5

func TestPartsKeepTheirOrder(t *testing.T) {
	parts := rowsOver([]byte{0, 1, 2, 0xfe, 0xff}, 3)
	for _, x := range parts {
		for _, y := range parts {
			wantCompare(t, key.Bytes(nil, x), key.Bytes(nil, y), order(x, y))
			wantCompare(t, key.Bytes([]byte("k"), x), key.Bytes([]byte("k"), y), order(x, y))
		}
	}
}

func TestNumbersKeepTheirOrder(t *testing.T) {
	numbers := edgeNumbers()
	for _, x := range numbers {
		for _, y := range numbers {
			wantCompare(t, key.Number(nil, x), key.Number(nil, y), cmp.Compare(x, y))
		}
	}
}

func keyOf(parts [][]byte) []byte {
	var all []byte
	for _, p := range parts {
		all = key.Bytes(all, p)
	}
	return all
}

// rowsOfParts are all rows of at most n of the given parts.
func rowsOfParts(parts [][]byte, n int) [][][]byte {
	all := [][][]byte{nil}
	last := all
	for range n {
		var longer [][][]byte
		for _, r := range last {
			for _, p := range parts {
				longer = append(longer, append(slices.Clone(r), p))
			}
		}
		all = append(all, longer...)
		last = longer
	}
	return all
}

func TestRowsOfPartsKeepTheirOrder(t *testing.T) {
	parts := [][]byte{nil, {0}, {0, 0}, {0, 1}, {1}, {0xff}, []byte("a")}
	rows := rowsOfParts(parts, 3)
	for _, x := range rows {
		for _, y := range rows {
			want := slices.CompareFunc(x, y, order)
			if got := key.Compare(keyOf(x), keyOf(y)); got != want {
				t.Fatalf("rows %x and %x: %d, not %d", x, y, got, want)
			}
		}
	}
}

func TestAWholeRowStandsAheadOfTheRowThatGoesOn(t *testing.T) {
	rows := rowsOfParts([][]byte{nil, {0}, {0xff}, []byte("ab")}, 3)
	for _, x := range rows {
		for _, more := range [][]byte{nil, {0}, {0xff}, []byte("b")} {
			longer := key.Bytes(keyOf(x), more)
			wantCompare(t, keyOf(x), longer, -1)
			wantCompare(t, longer, keyOf(x), 1)
		}
	}
}

func TestRowsOfPartsAndNumbersKeepTheirOrder(t *testing.T) {
	numbers := []int64{math.MinInt64, -256, -1, 0, 1, 255, 256, math.MaxInt64}
	parts := [][]byte{nil, {0}, {0, 1}, {0xff}, []byte("a"), []byte("a\x00")}
	for _, p := range parts {
		for _, n := range numbers {
			for _, q := range parts {
				for _, m := range numbers {
					want := cmp.Or(order(p, q), cmp.Compare(n, m))
					wantCompare(t, key.Number(key.Bytes(nil, p), n), key.Number(key.Bytes(nil, q), m), want)
				}
			}
		}
	}
}

// P7.6

func TestTakeOfBytesWhateverStandsBehind(t *testing.T) {
	behinds := append(rowsOver([]byte{0, 1, 0xff}, 2), []byte("\x00\x02"), []byte("xyz"), numberOf(-1), row(7, 300))
	for _, part := range append(rowsOver([]byte{0, 1, 2, 0xff}, 3), nil, []byte{}, make([]byte, 100), row(8, 512)) {
		put := key.Bytes(nil, part)
		for _, behind := range behinds {
			wantPart(t, join(put, behind), part, len(put))
		}
	}
}

func TestPartsAndNumbersOneBehindTheOther(t *testing.T) {
	from := rand.New(rand.NewSource(9))
	for range 500 {
		var all []byte
		var parts [][]byte
		var numbers []int64
		for range from.Intn(6) {
			part := row(from.Int63(), from.Intn(20))
			for range from.Intn(4) {
				part = append(part, []byte{0, 1, 0xff}[from.Intn(3)])
			}
			n := int64(from.Uint64()) >> from.Intn(64)
			all = key.Number(key.Bytes(all, part), n)
			parts, numbers = append(parts, part), append(numbers, n)
		}
		for i, part := range parts {
			wantPart(t, all, part, len(partOf(part)))
			all = all[len(partOf(part)):]
			if n, errno := key.TakeNumber(all); n != numbers[i] || errno != api.OK {
				t.Errorf("%d, %d, not %d", n, errno, numbers[i])
			}
			all = all[8:]
		}
		if len(all) != 0 {
			t.Errorf("%x is left", all)
		}
	}
}

func TestWhatBeginsWithAPrefixAndNothingElse(t *testing.T) {
	rows := rowsOver([]byte{0, 1, 'a', 0xfe, 0xff}, 4)
	for _, prefix := range rowsOver([]byte{0, 'a', 0xfe, 0xff}, 3) {
		after, ok := key.After(prefix)
		for _, r := range rows {
			within := key.Compare(prefix, r) <= 0 && (!ok || key.Compare(r, after) < 0)
			if within != bytes.HasPrefix(r, prefix) {
				t.Fatalf("prefix %x, After %x, %v: %x", prefix, after, ok, r)
			}
		}
	}
}

func TestTheKeysOfAPartAreFromItOnAndAheadOfAfter(t *testing.T) {
	rows := rowsOfParts([][]byte{nil, {0}, {0, 1}, {1}, {0xff}, {0xff, 0xff}}, 3)
	for _, part := range [][]byte{nil, {0}, {1}, {0xff}, {0xff, 0xff}} {
		from := key.Bytes(nil, part)
		to, ok := key.After(from)
		for _, r := range rows {
			k := keyOf(r)
			within := key.Compare(from, k) <= 0 && key.Compare(k, to) < 0
			if want := len(r) > 0 && bytes.Equal(r[0], part); !ok || within != want {
				t.Errorf("keys of %x, up to %x, %v: %x", part, to, ok, r)
			}
		}
	}
}

// Of bytes from another hand each call ends, and what is taken is what would be put.
func FuzzTake(f *testing.F) {
	f.Add([]byte(nil))
	f.Add([]byte("a\x00\xff\x00\x01b"))
	f.Add([]byte("a\x00\x02"))
	f.Fuzz(func(t *testing.T, b []byte) {
		part, size, errno := key.TakeBytes(b)
		switch errno {
		case api.OK:
			if !bytes.Equal(partOf(part), b[:size]) {
				t.Errorf("TakeBytes(%x) = %x, %d", b, part, size)
			}
		default:
			wantNoPart(t, b, errno)
		}
		if n, errno := key.TakeNumber(b); errno == api.OK && !bytes.Equal(numberOf(n), b[:8]) {
			t.Errorf("TakeNumber(%x) = %d", b, n)
		}
		if after, ok := key.After(b); ok && key.Compare(b, after) >= 0 {
			t.Errorf("After(%x) = %x", b, after)
		}
	})
}
