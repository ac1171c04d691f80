package block_test

import (
	"bytes"
	"encoding/hex"
	"fmt"
	"math"
	"math/rand"
	"slices"
	"strings"
	"testing"

	"halyard/api"
	"halyard/block"
)

// row is a row of n bytes that look like nothing in particular, the same for the same seed.
func row(seed int64, n int) []byte {
	b := make([]byte, n)
	rand.New(rand.NewSource(seed)).Read(b)
	return b
}

// unhex reads bytes as the document writes them: with blanks and strokes between.
func unhex(t *testing.T, text string) []byte {
	t.Helper()
	b, err := hex.DecodeString(strings.NewReplacer(" ", "", "/", "").Replace(text))
	if err != nil {
		t.Fatal(err)
	}
	return b
}

func put(key string, seq, until int64, value string) api.Entry {
	return api.Entry{Key: []byte(key), Seq: seq, Until: until, Value: []byte(value)}
}

func away(key string, seq int64) api.Entry {
	return api.Entry{Key: []byte(key), Seq: seq, Gone: true}
}

func of(entries ...api.Entry) []api.Entry { return entries }

func example() []api.Entry { return of(put("ab", 3, 0, "x"), away("abc", 2)) }

// many are n entries in order, of one to three numbers a key, put and taken away.
func many(n int) []api.Entry {
	var l []api.Entry
	for i := range n {
		e := put(fmt.Sprintf("key/%05d", i/3*7), int64(5000-i*11), int64(i%4*200), strings.Repeat("v", i%20))
		if i%5 == 3 {
			e = away(string(e.Key), e.Seq)
		}
		l = append(l, e)
	}
	return l
}

// keysOf are entries of these keys, in the order of the keys.
func keysOf(keys ...string) []api.Entry {
	var l []api.Entry
	for i, key := range keys {
		l = append(l, put(key, int64(i+1), 0, "v"))
	}
	return l
}

// numbersOf are entries of one key with these numbers.
func numbersOf(key string, numbers ...int64) []api.Entry {
	var l []api.Entry
	for i, n := range numbers {
		e := put(key, n, n, "v")
		if i%2 == 1 {
			e = away(key, n)
		}
		l = append(l, e)
	}
	return l
}

// falling are the n numbers from top down.
func falling(top int64, n int) []int64 {
	var all []int64
	for i := range n {
		all = append(all, top-int64(i))
	}
	return all
}

// growing are keys each of which is the beginning of the next.
func growing(n int) []string {
	var keys []string
	for i := range n {
		keys = append(keys, strings.Repeat("g", i+1))
	}
	return keys
}

// heaviest are as many and as long entries as may be.
func heaviest() []api.Entry {
	var l []api.Entry
	for i := range 400 {
		key := join([]byte{byte(i >> 8), byte(i)}, row(int64(i), 510))
		l = append(l, api.Entry{Key: key, Seq: bound, Until: bound, Value: row(int64(-i), 2048)})
	}
	return l
}

func longKey(last byte) string { return strings.Repeat("k", 511) + string([]byte{last}) }

// edges are lists that may be, the edges among them; none of them has many bytes.
func edges() [][]api.Entry {
	all := [][]api.Entry{
		example(),
		of(put("a", 1, 0, "")),
		of(away("a", 1)),
		of(api.Entry{Key: []byte{0}, Seq: 1}),
		of(api.Entry{Key: []byte{0xff}, Seq: bound, Until: bound, Value: []byte{}}),
		of(api.Entry{Key: []byte("k"), Seq: 127, Gone: true, Value: []byte{}}),
		of(away("\x00", 2), away("\x00", 1), put("\x00\x00", 1, 1, "\x00"), put("\x00\x01", 1, 1, "\x80"), put("\x80", 1, 128, ""), away("\xff", 1), away("\xff\x00", 9), away("\xff\xff", 1)),
		keysOf("a", "b", "c"),
		keysOf("a", "ab", "abc", "abd", "b", "ba"),
		keysOf("aa", "aab", "ab", "abb", "abba", "ac", "b", "bb", "bbb", "bbc", "c"),
		keysOf(growing(9)...),
		keysOf(growing(20)...),
		numbersOf("one", falling(9, 9)...),
		numbersOf("one", falling(bound, 17)...),
		numbersOf("one", bound, bound-1, 1<<61, 1<<40, 300, 128, 127, 2, 1),
		of(put(longKey('a'), 2, 0, "x"), away(longKey('a'), 1), put(longKey('b'), 1, 0, "y")),
	}
	for _, n := range []int{1, 2, 7, 8, 9, 15, 16, 17, 24, 25} {
		all = append(all, many(n))
	}
	for _, n := range []int64{1, 2, 127, 128, 16383, 16384, 1 << 31, 1 << 32, 1 << 61, bound - 1, bound} {
		all = append(all, of(put("k", n, n-1, "v"), put("l", n, n, "")))
	}
	return all
}

// good are edges and such lists with many bytes.
func good() [][]api.Entry {
	all := append(edges(),
		many(399), many(400),
		keysOf(growing(400)...),
		numbersOf("one", falling(400, 400)...),
		numbersOf(longKey('z'), falling(bound, 400)...),
		heaviest(),
	)
	for _, n := range []int{126, 127, 128, 129, 255, 256, 511, 512} {
		key := string(row(4, n))
		all = append(all, of(put(key, 2, 0, string(row(5, n))), away(key, 1)), of(away(key[:n-1], 7), put(key, 2, 0, "")))
	}
	for _, n := range []int{0, 1, 127, 128, 2047, 2048} {
		all = append(all, of(put("k", 9, 7, string(row(6, n))), put("kk", 1, 0, string(row(7, n)))))
	}
	return all
}

func show(l []api.Entry) string {
	var text strings.Builder
	fmt.Fprintf(&text, "%d entries:", len(l))
	for _, e := range l[:min(len(l), 5)] {
		fmt.Fprintf(&text, " {%.20q %d %v %d %.20q}", e.Key, e.Seq, e.Gone, e.Until, e.Value)
	}
	return text.String()
}

func sameEntry(a, b api.Entry) bool {
	return bytes.Equal(a.Key, b.Key) && a.Seq == b.Seq && a.Gone == b.Gone && a.Until == b.Until && bytes.Equal(a.Value, b.Value)
}

func same(a, b []api.Entry) bool { return slices.EqualFunc(a, b, sameEntry) }

func zero(e api.Entry) bool { return sameEntry(e, api.Entry{}) }

// withRoom is a copy of s with other bytes behind its length, and all of the copy.
func withRoom(s []byte) ([]byte, []byte) {
	whole := join(s, bytes.Repeat([]byte{0xee}, 40))
	return whole[:len(s)], whole
}

// guardedBytes is a copy of b with room behind its length, and a look whether all of it stayed as it was.
func guardedBytes(b []byte) ([]byte, func(t *testing.T)) {
	given, whole := withRoom(b)
	before := bytes.Clone(whole)
	return given, func(t *testing.T) {
		t.Helper()
		if !bytes.Equal(whole, before) {
			t.Errorf("the argument %.60x was changed", b)
		}
	}
}

// guarded is guardedBytes' like for entries: each list of theirs, and their own, have room.
func guarded(l []api.Entry) ([]api.Entry, func(t *testing.T)) {
	whole := make([]api.Entry, len(l)+3)
	var wholes, before [][]byte
	for i := range whole {
		e := put("behind", 9, 9, "behind")
		if i < len(l) {
			e = l[i]
		}
		var key, value []byte
		e.Key, key = withRoom(e.Key)
		e.Value, value = withRoom(e.Value)
		whole[i] = e
		wholes = append(wholes, key, value)
		before = append(before, bytes.Clone(key), bytes.Clone(value))
	}
	image := slices.Clone(whole)
	return whole[:len(l)], func(t *testing.T) {
		t.Helper()
		if !same(whole, image) || !slices.EqualFunc(wholes, before, bytes.Equal) {
			t.Errorf("the argument %s was changed", show(l))
		}
	}
}

// overwrite changes each byte that the slice reaches, also those behind its length.
func overwrite(b []byte) {
	b = b[:cap(b)]
	for i := range b {
		b[i] ^= 0xff
	}
}

func lists(l []api.Entry) [][]byte {
	var all [][]byte
	for _, e := range l {
		all = append(all, e.Key, e.Value)
	}
	return all
}

// wantApart overwrites one list after the other, with what lies behind its length, and looks whether another one changed.
func wantApart(t *testing.T, all [][]byte) {
	t.Helper()
	before := make([][]byte, len(all))
	for i, l := range all {
		before[i] = bytes.Clone(l)
	}
	for i, l := range all {
		overwrite(l)
		for j, other := range all {
			if j != i && !bytes.Equal(other, before[j]) {
				t.Errorf("the lists %d and %d share memory", i, j)
			}
		}
		overwrite(l)
	}
}

func wantEncode(t *testing.T, l []api.Entry, want []byte) {
	t.Helper()
	given, unchanged := guarded(l)
	got, errno := block.Encode(given)
	if errno != api.OK || !bytes.Equal(got, want) {
		t.Errorf("Encode(%s) = %.60x, %d, not %.60x", show(l), got, errno, want)
	}
	overwrite(got)
	unchanged(t)
}

func wantNoBytes(t *testing.T, l []api.Entry, want api.Errno) {
	t.Helper()
	given, unchanged := guarded(l)
	if got, errno := block.Encode(given); errno != want || got != nil {
		t.Errorf("Encode(%s) = %.60x, %d, not the error %d alone", show(l), got, errno, want)
	}
	unchanged(t)
}

func wantDecode(t *testing.T, b []byte, want []api.Entry) {
	t.Helper()
	given, unchanged := guardedBytes(b)
	got, errno := block.Decode(given)
	if errno != api.OK || !same(got, want) {
		t.Errorf("Decode(%.60x) = %s, %d, not %s", b, show(got), errno, show(want))
	}
	for _, list := range lists(got) {
		overwrite(list)
	}
	unchanged(t)
}

// wantRefused asks Seek, too: it finds nothing where Decode refuses.
func wantRefused(t *testing.T, b []byte, want api.Errno) {
	t.Helper()
	given, unchanged := guardedBytes(b)
	if got, errno := block.Decode(given); errno != want || got != nil {
		t.Errorf("Decode(%d bytes %.80x) = %s, %d, not the error %d alone", len(b), b, show(got), errno, want)
	}
	for _, key := range []string{"", "a", "ab", "\xff"} {
		if e, ok := block.Seek(given, []byte(key), bound); ok || !zero(e) {
			t.Errorf("Seek(%d bytes %.80x, %q) = %v, %v", len(b), b, key, e, ok)
		}
	}
	unchanged(t)
}

// wantAsTheWords holds Decode against the model.
func wantAsTheWords(t *testing.T, b []byte) {
	t.Helper()
	want, wantErrno := decoded(b)
	got, errno := block.Decode(b)
	if errno != wantErrno || !same(got, want) || errno != api.OK && got != nil {
		t.Fatalf("Decode(%d bytes %.80x) = %s, %d, not %s, %d", len(b), b, show(got), errno, show(want), wantErrno)
	}
	if errno != api.OK {
		return
	}
	if back, errno := block.Encode(got); errno != api.OK || !bytes.Equal(back, b) {
		t.Fatalf("Encode of Decode of %.80x = %.80x, %d", b, back, errno)
	}
}

// In order

func TestOrderedOfKnownEntries(t *testing.T) {
	for _, c := range []struct {
		l    []api.Entry
		want bool
	}{
		{nil, true},
		{of(), true},
		{of(away("a", 1)), true},
		{of(api.Entry{}), true},
		{of(api.Entry{}, api.Entry{}), false},
		{of(away("a", 2), away("a", 1)), true},
		{of(away("a", 1), away("a", 2)), false},
		{of(away("a", 1), away("a", 1)), false},
		{of(away("a", 1), put("a", 1, 5, "x")), false},
		{of(away("a", 1), away("b", 2)), true},
		{of(away("b", 2), away("a", 1)), false},
		{of(away("a", 1), away("ab", 1)), true},
		{of(away("ab", 1), away("a", 1)), false},
		{of(away("\x7f", 1), away("\x80", 1)), true},
		{of(away("a", 0), away("a", -1), away("a", math.MinInt64)), true},
		{of(away("a", math.MaxInt64), away("a", math.MinInt64)), true},
		{of(away("a", math.MinInt64), away("a", math.MaxInt64)), false},
		{many(1000), true},
		{append(many(1000), away("key", 1)), false},
	} {
		given, unchanged := guarded(c.l)
		if got := block.Ordered(given); got != c.want {
			t.Errorf("Ordered(%s) = %v", show(c.l), got)
		}
		unchanged(t)
	}
}

func TestOrderedOfAllShortLists(t *testing.T) {
	var entries []api.Entry
	for _, key := range []string{"", "\x00", "a", "aa", "b"} {
		for seq := int64(1); seq <= 2; seq++ {
			entries = append(entries, away(key, seq))
		}
	}
	for _, a := range entries {
		for _, b := range entries {
			for _, c := range entries {
				l := of(a, b, c)
				for n := range 4 {
					if got := block.Ordered(l[:n]); got != inOrder(l[:n]) {
						t.Errorf("Ordered(%s) = %v", show(l[:n]), got)
					}
				}
			}
		}
	}
}

func TestOrderedLooksAtEachNeighbour(t *testing.T) {
	l := many(40)
	for i := range len(l) - 1 {
		other := slices.Clone(l)
		other[i], other[i+1] = other[i+1], other[i]
		if block.Ordered(other) {
			t.Errorf("the entries %d and %d the other way round are in order", i, i+1)
		}
		wantNoBytes(t, other, api.ErrOrder)
	}
}

// P11.1

func TestEncodeOfKnownEntries(t *testing.T) {
	for _, c := range []struct {
		l    []api.Entry
		want string
	}{
		{example(), "00 02 61 62 03 00 00 01 78 / 02 01 63 02 01 / 00 00 00 00 / 00 00 00 01"},
		{of(put("a", 1, 0, "")), "00 01 61 01 00 00 00 / 00 00 00 00 / 00 00 00 01"},
		{of(api.Entry{Key: []byte("a"), Seq: 1}), "00 01 61 01 00 00 00 / 00 00 00 00 / 00 00 00 01"},
		{of(away("a", 300)), "00 01 61 ac 02 01 / 00 00 00 00 / 00 00 00 01"},
		{of(put("k", bound, bound, "v")), "00 01 6b 80 80 80 80 80 80 80 80 40 00 80 80 80 80 80 80 80 80 40 01 76 / 00 00 00 00 / 00 00 00 01"},
		{of(away("a", 2), away("a", 1)), "00 01 61 02 01 / 01 00 01 01 / 00 00 00 00 / 00 00 00 01"},
		{of(away("a", 1), away("b", 1)), "00 01 61 01 01 / 00 01 62 01 01 / 00 00 00 00 / 00 00 00 01"},
		{of(away("axa", 1), away("aya", 1)), "00 03 61 78 61 01 01 / 01 02 79 61 01 01 / 00 00 00 00 / 00 00 00 01"},
		{of(put("ab", 1, 128, "\x00\xff"), away("ac", 1), put("acc", 9, 1, "")),
			"00 02 61 62 01 00 80 01 02 00 ff / 01 01 63 01 01 / 02 01 63 09 00 01 00 / 00 00 00 00 / 00 00 00 01"},
		{numbersOf("a", falling(9, 9)...)[:8],
			"00 01 61 09 00 09 01 76 / 01 00 08 01 / 01 00 07 00 07 01 76 / 01 00 06 01 / 01 00 05 00 05 01 76 / 01 00 04 01 / 01 00 03 00 03 01 76 / 01 00 02 01 / 00 00 00 00 / 00 00 00 01"},
		{numbersOf("a", falling(9, 9)...),
			"00 01 61 09 00 09 01 76 / 01 00 08 01 / 01 00 07 00 07 01 76 / 01 00 06 01 / 01 00 05 00 05 01 76 / 01 00 04 01 / 01 00 03 00 03 01 76 / 01 00 02 01 / 00 01 61 01 00 01 01 76 / 00 00 00 00 00 00 00 2d / 00 00 00 02"},
	} {
		wantEncode(t, c.l, unhex(t, c.want))
		wantDecode(t, unhex(t, c.want), c.l)
	}
}

func TestEncodeOfEntriesThatMayBe(t *testing.T) {
	for _, l := range good() {
		wantEncode(t, l, bytesOf(l))
	}
}

// Each eighth entry stands whole, though it shares all of its key with the one ahead.
func TestEncodeHasARestartForEachEighthEntry(t *testing.T) {
	for n := 1; n <= 400; n++ {
		count := (n + 7) / 8
		b, errno := block.Encode(numbersOf("abc", falling(400, n)...))
		if errno != api.OK || !bytes.HasSuffix(b, u32(count)) || bytes.Count(b, []byte("\x00\x03abc")) != count {
			t.Errorf("%d entries: %x, %d", n, b, errno)
		}
	}
}

func TestEncodeOfPlacesThatNeedMoreBytes(t *testing.T) {
	l := heaviest()
	b, errno := block.Encode(l)
	if errno != api.OK || !bytes.HasSuffix(b, u32(50)) {
		t.Fatal(len(b), errno)
	}
	for i := range 50 {
		at := place(b, len(b)-4-4*(50-i))
		if !bytes.HasPrefix(b[at:], join([]byte{0}, withLength(l[8*i].Key))) {
			t.Errorf("restart %d: no whole key at %d", i, at)
		}
	}
	if last := place(b, len(b)-8); last < 1<<16 {
		t.Errorf("the last place is %d", last)
	}
}

func TestEncodeOfHowManyEntries(t *testing.T) {
	wantNoBytes(t, nil, api.ErrMany)
	wantNoBytes(t, of(), api.ErrMany)
	for _, n := range []int{1, 2, 399, 400} {
		wantEncode(t, many(n), bytesOf(many(n)))
	}
	for _, n := range []int{401, 402, 800, 1000} {
		wantNoBytes(t, numbersOf("one", falling(1000, n)...), api.ErrMany)
	}
}

// strange are entries that may not be.
func strange() []api.Entry {
	all := of(
		put("", 1, 0, "v"), away("", 1),
		put(strings.Repeat("k", 513), 1, 0, "v"), away(strings.Repeat("k", 513), 1), away(strings.Repeat("k", 5000), 1),
		put("k", 1, 0, strings.Repeat("v", 2049)), put("k", 1, 0, strings.Repeat("v", 50000)),
		api.Entry{Key: []byte("k"), Seq: 1, Gone: true, Value: []byte("v")},
		api.Entry{Key: []byte("k"), Seq: 1, Gone: true, Until: 1},
		api.Entry{Key: []byte("k"), Seq: 1, Gone: true, Until: bound},
		api.Entry{Key: []byte("k"), Seq: 1, Gone: true, Until: -1},
		api.Entry{},
	)
	for _, n := range []int64{0, -1, -bound, math.MinInt64, bound + 1, math.MaxInt64} {
		all = append(all, put("k", n, 0, "v"), away("k", n))
	}
	for _, n := range []int64{-1, -bound, math.MinInt64, bound + 1, math.MaxInt64} {
		all = append(all, put("k", 1, n, "v"), put("k", 1, n, ""))
	}
	return all
}

func TestEncodeOfEntriesThatMayNotBe(t *testing.T) {
	for _, e := range strange() {
		wantNoBytes(t, of(e), api.ErrArg)
		for _, n := range []int{2, 8, 9, 400} {
			for _, at := range []int{0, n / 2, n - 1} {
				l := many(n)
				l[at] = e
				wantNoBytes(t, l, api.ErrArg)
			}
		}
	}
}

// just are entries with the numbers and lengths that may still be.
func just() []api.Entry {
	return of(
		put("k", 1, 0, "v"), put("k", bound, 0, "v"), put("k", 1, bound, "v"), away("k", bound),
		put(longKey('k'), 1, 0, "v"), away(longKey('k'), 1), put("k", 1, 0, strings.Repeat("v", 2048)),
	)
}

func TestEncodeOfEntriesThatMayJustBe(t *testing.T) {
	for _, e := range just() {
		wantEncode(t, of(e), bytesOf(of(e)))
		wantEncode(t, of(away("a", 7), e, away("l", 7)), bytesOf(of(away("a", 7), e, away("l", 7))))
	}
}

// disordered are lists of entries that may be, out of order.
func disordered() [][]api.Entry {
	return [][]api.Entry{
		of(away("b", 1), away("a", 1)),
		of(away("a", 1), away("a", 2)),
		of(away("a", 1), away("a", 1)),
		of(put("a", 1, 0, "x"), put("a", 1, 0, "x")),
		of(put("a", 1, 0, "x"), put("a", 1, 0, "y")),
		of(put("a", 1, 0, "x"), away("a", 1)),
		of(away("ab", 1), away("a", 1)),
		of(away("\x80", 1), away("\x7f", 1)),
		of(away("a", 3), away("b", 3), away("a", 2)),
		numbersOf("one", 1, 2, 3, 4, 5, 6, 7, 8, 9),
		append(many(400)[1:], many(400)[0]),
		append(many(399), many(399)[398]),
		append(many(8), many(8)[7]),
	}
}

func TestEncodeOfEntriesOutOfOrder(t *testing.T) {
	for _, l := range disordered() {
		wantNoBytes(t, l, api.ErrOrder)
	}
}

// How many there are is asked first, then whether each may be, then the order.
func TestEncodeTellsTheFirstOfSeveralErrors(t *testing.T) {
	wantNoBytes(t, make([]api.Entry, 401), api.ErrMany)
	wantNoBytes(t, append(of(away("b", 1), away("a", 0)), many(399)...), api.ErrMany)
	wantNoBytes(t, of(away("b", 1), away("a", 0)), api.ErrArg)
	wantNoBytes(t, of(away("b", 1), away("a", 1), away("c", 0)), api.ErrArg)
	wantNoBytes(t, of(away("b", 0), away("a", 1)), api.ErrArg)
	wantNoBytes(t, make([]api.Entry, 400), api.ErrArg)
	for _, e := range strange() {
		wantNoBytes(t, of(away("z", 1), away("a", 1), e), api.ErrArg)
		wantNoBytes(t, of(e, e), api.ErrArg)
	}
}

func TestEncodeTellsMemoryOfItsOwn(t *testing.T) {
	l := example()
	one, _ := block.Encode(l)
	two, _ := block.Encode(l)
	overwrite(two)
	for _, list := range lists(l) {
		overwrite(list)
	}
	l[0] = away("c", 9)
	if !bytes.Equal(one, bytesOf(example())) {
		t.Errorf("what was told became %x", one)
	}
}

// P11.2

func TestDecodeOfBlocks(t *testing.T) {
	for _, l := range good() {
		wantDecode(t, bytesOf(l), l)
	}
}

func TestDecodeOfTooFewBytes(t *testing.T) {
	wantRefused(t, nil, api.ErrShort)
	for n := range 4 {
		for _, c := range []byte{0, 1, 0x80, 0xff} {
			wantRefused(t, bytes.Repeat([]byte{c}, n), api.ErrShort)
		}
	}
	// The lacking bytes stand behind the length: they are not read.
	wantRefused(t, bytesOf(example())[:3], api.ErrShort)
}

func TestDecodeOfTheNumberAtTheEnd(t *testing.T) {
	for ahead := range 30 {
		for _, c := range []byte{0, 0x80} { // 80: a number that no byte ends
			b := bytes.Repeat([]byte{c}, ahead)
			wantRefused(t, join(b, u32(0)), api.ErrForm)
			for _, count := range []int{ahead/4 + 1, ahead/4 + 2, ahead + 1, 1 << 20, 1 << 30, 1<<30 + 1, 1 << 31, 1<<32 - 1} {
				wantRefused(t, join(b, u32(count)), api.ErrForm)
			}
			if ahead >= 4 && ahead%4 == 0 {
				wantRefused(t, join(b, u32(ahead/4)), api.ErrForm) // no entries
			}
			if c == 0x80 && ahead >= 5 {
				wantRefused(t, join(b, u32(1)), api.ErrShort)
				wantRefused(t, join(b, u32((ahead-1)/4)), api.ErrShort)
			}
		}
	}
}

// withCount is the block with another number at its end.
func withCount(b []byte, count int) []byte { return join(b[:len(b)-4], u32(count)) }

func TestDecodeOfOnePlaceTooManyOrTooFew(t *testing.T) {
	for _, n := range []int{1, 8, 9, 16, 17, 400} {
		b := bytesOf(many(n))
		count := (n + 7) / 8
		for _, other := range []int{0, count - 1, count + 1, count + 2, 1 << 24, 1<<32 - 1} {
			wrong := withCount(b, other)
			wantAsTheWords(t, wrong)
			if _, errno := block.Decode(wrong); errno == api.OK {
				t.Errorf("%d entries with %d places are taken", n, other)
			}
		}
	}
	// All is well but for the count: a place is lacking, or stands there twice.
	l := many(9)
	body := bytesOf(l)[:len(bytesOf(l))-12]
	second := len(bytesOf(l[:8])) - 8
	wantDecode(t, withTail(body, 0, second), l)
	wantRefused(t, withTail(body, 0), api.ErrForm)
	wantRefused(t, withTail(body, second), api.ErrForm)
	wantRefused(t, withTail(body, 0, second, second), api.ErrForm)
	wantRefused(t, withTail(body, 0, 0, second), api.ErrForm)
	wantRefused(t, withTail(body, 0, second, len(body)), api.ErrForm)
	one := entryBytes(away("a", 5), 0)
	wantDecode(t, withTail(one, 0), of(away("a", 5)))
	wantRefused(t, withTail(one, 0, len(one)), api.ErrForm)
	wantRefused(t, withTail(one, 0, 0), api.ErrForm)
}

func TestDecodeOfPlacesThatAreWrong(t *testing.T) {
	for _, n := range []int{1, 8, 9, 17, 25} {
		b := bytesOf(many(n))
		count := (n + 7) / 8
		for i := range count {
			at := len(b) - 4 - 4*(count-i)
			for _, by := range []int{-1, 1, 2, 256, 1 << 30} {
				wrong := bytes.Clone(b)
				copy(wrong[at:], u32(place(b, at)+by))
				wantRefused(t, wrong, api.ErrForm)
			}
		}
	}
	b := bytesOf(many(17))
	swapped := bytes.Clone(b)
	copy(swapped[len(b)-12:], b[len(b)-8:len(b)-4])
	copy(swapped[len(b)-8:], b[len(b)-12:len(b)-8])
	wantRefused(t, swapped, api.ErrForm)
}

func place(b []byte, at int) int {
	return int(b[at])<<24 | int(b[at+1])<<16 | int(b[at+2])<<8 | int(b[at+3])
}

func TestDecodeOfNoEntries(t *testing.T) {
	for count := 1; count < 10; count++ {
		wantRefused(t, join(make([]byte, 4*count), u32(count)), api.ErrForm)
	}
}

func TestDecodeOfMoreEntriesThanMayBe(t *testing.T) {
	for _, n := range []int{401, 402, 408, 409, 1000, 5000} {
		wantRefused(t, bytesOf(numbersOf("one", falling(5000, n)...)), api.ErrForm)
	}
	// An error that stands further right is told, though there are too many ahead of it.
	l := many(420)
	body := bytesOf(l)[:len(bytesOf(l))-4*53-4]
	for bad, want := range map[string]api.Errno{"00 05 61": api.ErrShort, "00 81 04": api.ErrLong, "81 04": api.ErrForm, "00 01 61 05 02": api.ErrForm, "00 01 7a 05 00 00 81 10": api.ErrLong} {
		wantRefused(t, withTail(join(body, unhex(t, bad)), 0), want)
	}
}

// Bytes of an entry cut off at every place: what is lacking must not be read from the places.
func TestDecodeOfEntriesThatEndAtEveryPlace(t *testing.T) {
	for _, l := range [][]api.Entry{
		example(),
		of(put("ab", 300, 300, "xyz")),
		of(away("ab", 300)),
		of(put(longKey('a'), bound, bound, string(row(1, 2048)))),
	} {
		body := bytesOf(l)[:len(bytesOf(l))-8]
		whole := 0
		for _, e := range l[:len(l)-1] {
			whole += len(entryBytes(e, 0))
		}
		for end := range body {
			if end == 0 || end == whole {
				continue
			}
			wantRefused(t, withTail(body[:end], 0), api.ErrShort)
			wantRefused(t, withTail(body[:end], 1, 2, 3), api.ErrShort)
		}
	}
}

func TestDecodeOfBlocksCutOffAtEveryPlace(t *testing.T) {
	for _, l := range edges() {
		whole := bytesOf(l)
		for end := range whole {
			wantAsTheWords(t, whole[:end])
			if _, errno := block.Decode(whole[:end]); errno == api.OK {
				t.Errorf("%d of %d bytes of %s are taken", end, len(whole), show(l))
			}
		}
		for begin := 1; begin <= len(whole); begin++ {
			wantAsTheWords(t, whole[begin:])
		}
	}
}

func TestDecodeOfBytesWithOneChanged(t *testing.T) {
	for _, l := range [][]api.Entry{example(), of(away("a", 1)), of(put("ab", 300, 300, "c"), away("ad", bound)), many(9), numbersOf("one", falling(9, 9)...)} {
		whole := bytesOf(l)
		for at := range whole {
			for c := range 256 {
				other := bytes.Clone(whole)
				other[at] = byte(c)
				wantAsTheWords(t, other)
			}
			wantAsTheWords(t, join(whole[:at], whole[at+1:]))
			for _, c := range []byte{0, 1, 2, 0x80, 0xff} {
				wantAsTheWords(t, join(whole[:at], []byte{c}, whole[at:]))
			}
		}
		wantRefused(t, join(whole, []byte{0}), api.ErrForm)
		wantAsTheWords(t, join(whole, whole))
	}
}

// ahead are the bytes of no entry, of one, and of eight, with the key of the last one.
func ahead() map[string][]byte {
	eight := bytesOf(keysOf("b", "bb", "bc", "c", "cc", "cd", "d", "da"))
	return map[string][]byte{
		"":    nil,
		"aaa": entryBytes(away("aaa", 5), 0),
		"da":  eight[:len(eight)-8],
	}
}

// entryPlaces are what stands ahead of each number of an entry, and what may follow it.
func entryPlaces() map[string]string {
	return map[string]string{
		"":               "01 7a 05 01",
		"00":             "7a 05 01",
		"00 01 7a":       "01",
		"00 01 7a 05 00": "01 78",
	}
}

func TestDecodeOfNumbersOfWrongForms(t *testing.T) {
	for _, left := range ahead() {
		places := entryPlaces()
		places["00 01 7a 05 00 00"] = "78" // the value's length
		for before, behind := range places {
			for _, bad := range []string{"80 00", "81 00", "81 80 00", "ff 80 00", "80 80 80 80 80 80 80 80 80 00", "80 80 80 80 80 80 80 80 80 02", "ff ff ff ff ff ff ff ff ff 7f", "80 80 80 80 80 80 80 80 80 80 01"} {
				wantRefused(t, withTail(join(left, unhex(t, before+bad+behind)), 0), api.ErrForm)
				wantRefused(t, withTail(join(left, unhex(t, before+bad)), 0), api.ErrForm)
			}
			for _, n := range []int{1, 2, 9, 10, 11, 300} {
				wantRefused(t, withTail(join(left, unhex(t, before), bytes.Repeat([]byte{0x80}, n)), 0), api.ErrShort)
				wantRefused(t, withTail(join(left, unhex(t, before), bytes.Repeat([]byte{0xff}, n)), 0), api.ErrShort)
			}
		}
	}
}

// tooGreat are numbers above 2^62.
var tooGreat = []uint64{bound + 1, bound + 2, 1 << 63, 1<<63 + 5, math.MaxUint64 - 511, math.MaxUint64 - 1, math.MaxUint64}

func TestDecodeOfNumbersAboveTheBound(t *testing.T) {
	for _, n := range tooGreat {
		for _, left := range ahead() {
			for before := range entryPlaces() {
				for _, behind := range []string{"", "01", "02", "00", "80 00", "81 04", "00 81 10"} {
					wantRefused(t, withTail(join(left, unhex(t, before), uvarint(n), unhex(t, behind)), 0), api.ErrForm)
				}
			}
		}
	}
	for _, n := range []uint64{bound - 1, bound} {
		wantDecode(t, withTail(join(unhex(t, "00 01 7a"), uvarint(n), []byte{1}), 0), of(away("z", int64(n))))
		wantDecode(t, withTail(join(unhex(t, "00 01 7a 05 00"), uvarint(n), []byte{0}), 0), of(put("z", 5, int64(n), "")))
	}
}

func TestDecodeOfKeysThatShareMoreThanThereIs(t *testing.T) {
	for key, left := range ahead() {
		for _, n := range []uint64{1, 2, 127, 128, 511, 512, 513, 1 << 31, 1 << 32, 1<<32 + 1, bound, bound + 1, 1 << 63, math.MaxUint64} {
			for _, behind := range []string{"", "00", "01", "01 7a 05 01", "81 04", "80 00", "80"} {
				// It is told as soon as the number is read, whatever is lacking behind.
				wantRefused(t, withTail(join(left, uvarint(max(n, n+uint64(len(key)))), unhex(t, behind)), 0), api.ErrForm)
			}
		}
	}
	wantDecode(t, withTail(unhex(t, "00 02 61 61 05 01 / 02 01 61 05 01"), 0), of(away("aa", 5), away("aaa", 5)))
	wantRefused(t, withTail(unhex(t, "00 02 61 61 05 01 / 03 01 61 05 01"), 0), api.ErrForm)
	// It is the key ahead that counts, not a longer one ahead of that.
	wantRefused(t, withTail(unhex(t, "00 03 61 61 61 05 01 / 00 01 62 05 01 / 02 01 61 05 01"), 0), api.ErrForm)
}

func TestDecodeOfKeysOfAnyLength(t *testing.T) {
	for _, n := range []int{1, 2, 127, 128, 511, 512} {
		e := away(strings.Repeat("k", n), 5)
		wantDecode(t, bytesOf(of(e)), of(e))
		for _, there := range []int{0, n / 2, n - 1} {
			wantRefused(t, withTail(join([]byte{0}, uvarint(uint64(n)), make([]byte, there)), 0), api.ErrShort)
		}
	}
	// The bound is asked ahead of the bytes, whether they are there or not.
	for _, n := range []uint64{513, 514, 1000, 1 << 31, 1 << 32, 1<<32 + 1, bound - 1, bound} {
		for _, there := range []int{0, 1, 600} {
			wantRefused(t, withTail(join([]byte{0}, uvarint(n), make([]byte, there)), 0), api.ErrLong)
		}
	}
}

// Both numbers of a key together make its length.
func TestDecodeOfKeysWhoseTwoNumbersAreTooMuch(t *testing.T) {
	long := longKey('a')
	left := entryBytes(away(long, 5), 0)
	for _, shared := range []int{0, 1, 255, 511, 512} {
		more := 512 - shared
		key := long[:shared] + strings.Repeat("l", more)
		b := withTail(join(left, entryBytes(away(key, 4), shared)), 0)
		if shared == 512 {
			wantDecode(t, b, of(away(long, 5), away(long, 4)))
		}
		wantAsTheWords(t, b)
		for _, above := range []uint64{1, 2, 600, bound - 512} {
			head := join(uvarint(uint64(shared)), uvarint(uint64(more)+above))
			wantRefused(t, withTail(join(left, head), 0), api.ErrLong)
			wantRefused(t, withTail(join(left, head, make([]byte, 1200)), 0), api.ErrLong)
		}
	}
	wantRefused(t, withTail(join(left, uvarint(513), uvarint(0)), 0), api.ErrForm)
}

func TestDecodeOfValuesOfAnyLength(t *testing.T) {
	for _, left := range ahead() {
		head := join(left, unhex(t, "00 01 7a 05 00 07"))
		for _, n := range []int{1, 2, 127, 128, 2047, 2048} {
			for _, there := range []int{0, n / 2, n - 1} {
				wantRefused(t, withTail(join(head, uvarint(uint64(n)), make([]byte, there)), 0), api.ErrShort)
			}
		}
		for _, n := range append(tooGreat, 2049, 2050, 5000, 1<<31, 1<<32, 1<<32+1, bound) {
			for _, there := range []int{0, 1, 6000} {
				wantRefused(t, withTail(join(head, uvarint(n), make([]byte, there)), 0), api.ErrLong)
			}
		}
	}
	for _, n := range []int{0, 1, 127, 128, 2047, 2048} {
		e := put("z", 5, 7, string(row(8, n)))
		wantDecode(t, bytesOf(of(e)), of(e))
	}
}

func TestDecodeOfAnotherByteOfGone(t *testing.T) {
	for _, left := range ahead() {
		for c := 2; c < 256; c++ {
			for _, behind := range []string{"", "00 00", "00 81 10", "80 00", "01"} {
				wantRefused(t, withTail(join(left, unhex(t, "00 01 7a 05"), []byte{byte(c)}, unhex(t, behind)), 0), api.ErrForm)
			}
		}
	}
}

// What may not be, read, is told as no block at all; also behind entries that may be.
func TestDecodeOfEntriesThatMayNotBe(t *testing.T) {
	for _, text := range []string{
		"00 00 05 01",          // no key
		"00 00 05 00 00 01 78", // nor here
		"00 01 7a 00 01",       // a number of 0
		"00 01 7a 00 00 00 00",
	} {
		wantRefused(t, withTail(unhex(t, text), 0), api.ErrForm)
		wantRefused(t, withTail(join(entryBytes(away("a", 1), 0), unhex(t, text)), 0), api.ErrForm)
		wantRefused(t, withTail(join(unhex(t, text), entryBytes(away("zz", 1), 0)), 0), api.ErrForm)
	}
}

func TestDecodeOfEntriesOutOfOrder(t *testing.T) {
	for _, l := range disordered() {
		wantRefused(t, bytesOf(l), api.ErrForm)
	}
}

func TestDecodeOfSharedBytesAtAnEighthEntry(t *testing.T) {
	for _, at := range []int{8, 16} {
		l := keysOf(growing(at + 1)...)
		right := bytesOf(l)
		places := right[len(right)-4-4*(at/8+1):]
		last := entryBytes(l[at], 0)
		body := bytes.TrimSuffix(right, join(last, places))
		wantDecode(t, join(body, last, places), l)
		for shared := 1; shared <= at; shared++ {
			wantRefused(t, join(body, entryBytes(l[at], shared), places), api.ErrForm)
		}
	}
}

func TestDecodeOfFewerSharedBytesThanThereAre(t *testing.T) {
	l := of(away("abcd", 5), away("abce", 5))
	for shared := range 4 {
		b := withTail(join(entryBytes(l[0], 0), entryBytes(l[1], shared)), 0)
		if shared == 3 {
			wantDecode(t, b, l)
		} else {
			wantRefused(t, b, api.ErrForm)
		}
	}
	first := entryBytes(away("a", 2), 0)
	wantRefused(t, withTail(join(first, entryBytes(away("a", 1), 0)), 0), api.ErrForm)
	wantRefused(t, withTail(join(first, entryBytes(away("ab", 1), 0)), 0), api.ErrForm)
}

func TestDecodeOfSeveralErrorsTellsTheLeftmost(t *testing.T) {
	for text, want := range map[string]api.Errno{
		"01 81 04":                               api.ErrForm,  // shares too much, then a key too long
		"00 81 04 80 00":                         api.ErrLong,  // a key too long, then a number of a wrong form
		"80 00 81 04":                            api.ErrForm,  // the other way round
		"00 02 61":                               api.ErrShort, // the key lacks bytes
		"00 01 61 80 00 02":                      api.ErrForm,
		"00 01 61 05 02 80":                      api.ErrForm,  // a byte of Gone, then a number without end
		"00 01 61 80 02":                         api.ErrShort, // 02 ends the Seq: the byte of Gone lacks
		"00 01 61 05 00 80":                      api.ErrShort, // an Until without end
		"00 01 61 05 00 00 81 10 00 81 04":       api.ErrLong,
		"00 01 61 05 00 00 05 61":                api.ErrShort,
		"00 01 61 05 01 02 00":                   api.ErrForm,  // the second key shares too much
		"00 01 61 05 01 01 80 04":                api.ErrLong,  // 1 and 512
		"00 01 61 05 01 01 ff 03":                api.ErrShort, // 1 and 511
		"00 01 61 05 01 00 01 61 05 01 00":       api.ErrShort, // twice the same one, then a short one
		"00 01 62 05 01 00 01 61 05 02":          api.ErrForm,
		"00 01 62 05 01 00 01 61 05 01 00 81 04": api.ErrLong,  // out of order, then a key too long
		"00 00 05 01 00 81 04":                   api.ErrLong,  // no key, then one too long
		"00 01 61 00 01 00":                      api.ErrShort, // a number of 0, then a short one
		"00 01 61 00 01 00 81 04":                api.ErrLong,
	} {
		for _, places := range [][]int{{0}, {7}, {0, 0, 0}} {
			wantRefused(t, withTail(unhex(t, text), places...), want)
		}
		// The number at the end is asked ahead of all.
		wantRefused(t, join(unhex(t, text), u32(0)), api.ErrForm)
		wantRefused(t, join(unhex(t, text), u32(1000)), api.ErrForm)
	}
}

func TestDecodeTellsMemoryOfItsOwn(t *testing.T) {
	for _, l := range [][]api.Entry{example(), many(17), numbersOf("same", falling(20, 20)...), keysOf(growing(20)...)} {
		b := bytesOf(l)
		got, errno := block.Decode(b)
		if errno != api.OK {
			t.Fatal(errno)
		}
		again, _ := block.Decode(b)
		wantApart(t, slices.Concat([][]byte{b}, lists(got), lists(again)))
		overwrite(b)
		again[0] = away("other", 1)
		if !same(got, l) {
			t.Errorf("what was told became %s", show(got))
		}
	}
}

// shortRows calls look with all rows of up to n bytes of the alphabet.
func shortRows(alphabet []byte, n int, look func(row []byte)) {
	rows := [][]byte{nil}
	for range n {
		var longer [][]byte
		for _, r := range rows {
			for _, c := range alphabet {
				next := join(r, []byte{c})
				look(next)
				longer = append(longer, next)
			}
		}
		rows = longer
	}
}

func TestDecodeOfAllShortRows(t *testing.T) {
	shortRows([]byte{0, 1, 2, 0x61, 0x80, 0x84}, 6, func(r []byte) {
		wantAsTheWords(t, r)
		wantAsTheWords(t, withTail(r, 0))
		wantAsTheWords(t, withTail(join(entryBytes(away("a", 5), 0), r), 0))
		wantAsTheWords(t, withTail(join(unhex(t, "00 01 61 05"), r), 0))
	})
	shortRows([]byte{0, 1, 2, 9}, 6, func(r []byte) {
		wantAsTheWords(t, join(entryBytes(away("a", 5), 0), r))
		wantAsTheWords(t, join(entryBytes(away("a", 5), 0), make([]byte, 4), r))
	})
}

// Bytes without end, and ever more entries, must not take longer than they are.
func TestDecodeOfLongRowsThatAreNothing(t *testing.T) {
	for _, c := range []byte{0, 1, 2, 0x7f, 0x80, 0xff} {
		for _, head := range []string{"", "00", "00 01 61", "00 01 61 05 00"} {
			b := join(unhex(t, head), bytes.Repeat([]byte{c}, 1<<19))
			wantAsTheWords(t, withTail(b, 0))
			wantAsTheWords(t, b)
		}
	}
	long := entryBytes(away(longKey('a'), 5), 0)
	again := bytes.Repeat(unhex(t, "80 04 00 05 01"), 1<<18) // the same key, again and again
	wantRefused(t, withTail(join(long, again), 0), api.ErrForm)
	wantRefused(t, withTail(join(long, again, []byte{0}), 0), api.ErrShort)
}

// P11.3

func wantSeek(t *testing.T, b []byte, l []api.Entry, key []byte, seq int64) {
	t.Helper()
	want, there := sought(l, key, seq)
	givenBytes, sameBytes := guardedBytes(b)
	givenKey, sameKey := guardedBytes(key)
	got, ok := block.Seek(givenBytes, givenKey, seq)
	if ok != there || !sameEntry(got, want) {
		t.Errorf("Seek(%s, %.30q, %d) = %s, %v, not %s, %v", show(l), key, seq, show(of(got)), ok, show(of(want)), there)
	}
	overwrite(got.Key)
	overwrite(got.Value)
	sameBytes(t)
	sameKey(t)
}

// near are the key, and keys just ahead of it and behind it.
func near(key []byte) [][]byte {
	all := [][]byte{key, key[:len(key)-1], join(key, []byte{0}), join(key, []byte{0xff})}
	for _, by := range []byte{1, 0xff} {
		other := bytes.Clone(key)
		other[len(other)-1] += by
		all = append(all, other)
	}
	return all
}

func outside() [][]byte {
	return [][]byte{nil, {}, {0}, {0xff}, bytes.Repeat([]byte{0xff}, 600), bytes.Repeat([]byte("k"), 600), []byte(longKey('a') + "a")}
}

var anyNumbers = []int64{math.MinInt64, -1, 0, 1, bound, bound + 1, math.MaxInt64}

func TestSeekOfEveryKeyAndNumber(t *testing.T) {
	for _, l := range edges() {
		b := bytesOf(l)
		for _, e := range l {
			for _, key := range near(e.Key) {
				for _, seq := range append(anyNumbers, e.Seq-1, e.Seq, e.Seq+1) {
					wantSeek(t, b, l, key, seq)
				}
			}
		}
		for _, key := range outside() {
			for _, seq := range anyNumbers {
				wantSeek(t, b, l, key, seq)
			}
		}
	}
}

func TestSeekOfManyEntries(t *testing.T) {
	for _, l := range [][]api.Entry{many(400), keysOf(growing(400)...), numbersOf("one", falling(800, 400)...)} {
		b := bytesOf(l)
		for _, e := range l {
			wantSeek(t, b, l, e.Key, e.Seq)
			wantSeek(t, b, l, e.Key, e.Seq-1)
			wantSeek(t, b, l, e.Key, e.Seq+1)
			wantSeek(t, b, l, join(e.Key, []byte{0}), bound)
		}
	}
	l := heaviest()
	b := bytesOf(l)
	for _, i := range []int{0, 1, 7, 8, 9, 200, 391, 392, 399} {
		wantSeek(t, b, l, l[i].Key, bound)
		wantSeek(t, b, l, l[i].Key, bound-1)
	}
}

// The answers are written out here, not worked out.
func TestSeekOfKnownEntries(t *testing.T) {
	l := of(put("a", 5, 0, "x"), away("a", 3), put("b", 9, 7, "y"), put("bb", 1, 0, ""))
	b := bytesOf(l)
	for _, c := range []struct {
		key  string
		seq  int64
		want int // -1: none
	}{
		{"", 0, 0}, {"a", 9, 0}, {"a", 5, 0}, {"a", 4, 1}, {"a", 3, 1}, {"a", 2, 2}, {"a", -1, 2}, {"a\x00", 9, 2},
		{"b", 9, 2}, {"b", 8, 3}, {"ba", 1, 3}, {"bb", 1, 3}, {"bb", 0, -1}, {"bc", 9, -1}, {"c", math.MaxInt64, -1},
	} {
		got, ok := block.Seek(b, []byte(c.key), c.seq)
		if ok != (c.want >= 0) || ok && !sameEntry(got, l[c.want]) || !ok && !zero(got) {
			t.Errorf("Seek(%q, %d) = %s, %v", c.key, c.seq, show(of(got)), ok)
		}
	}
}

func TestSeekOfBytesThatAreNoBlock(t *testing.T) {
	for _, b := range [][]byte{nil, {}, {0}, u32(0), u32(1), withTail(nil, 0), []byte("no block at all")} {
		for _, key := range outside() {
			for _, seq := range anyNumbers {
				if e, ok := block.Seek(b, key, seq); ok || !zero(e) {
					t.Errorf("Seek(%x, %.20q, %d) = %v, %v", b, key, seq, e, ok)
				}
			}
		}
	}
	whole := bytesOf(many(17))
	for end := range whole {
		if e, ok := block.Seek(whole[:end], nil, bound); ok || !zero(e) {
			t.Errorf("Seek of %d of %d bytes = %v, %v", end, len(whole), e, ok)
		}
	}
}

// A fault behind the entry that is sought lets the block be none all the same.
func TestSeekAsksWhetherDecodeTakesTheBlock(t *testing.T) {
	for _, l := range [][]api.Entry{example(), many(9)} {
		whole := bytesOf(l)
		for at := range whole {
			for _, c := range []byte{0, 1, 2, 3, 0x62, 0x80, 0xff} {
				other := bytes.Clone(whole)
				other[at] = c
				entries, errno := decoded(other)
				for _, key := range []string{"", "ab", "abc", "key/00000", "key/00014", "z"} {
					want, there := sought(entries, []byte(key), 5)
					got, ok := block.Seek(other, []byte(key), 5)
					if ok != there || !sameEntry(got, want) || errno != api.OK && ok {
						t.Errorf("Seek(%x, %q) = %v, %v", other, key, got, ok)
					}
				}
			}
		}
	}
}

func TestSeekTellsMemoryOfItsOwn(t *testing.T) {
	b := bytesOf(example())
	key := []byte("ab")
	one, ok := block.Seek(b, key, 3)
	two, _ := block.Seek(b, key, 3)
	if !ok {
		t.Fatal("nothing is found")
	}
	wantApart(t, [][]byte{b, key, one.Key, one.Value, two.Key, two.Value})
	overwrite(b)
	overwrite(key)
	if !sameEntry(one, example()[0]) {
		t.Errorf("what was told became %v", one)
	}
}

// P11.4

func anyEntries(from *rand.Rand) []api.Entry {
	var l []api.Entry
	for range 1 + from.Intn(40) {
		e := api.Entry{Seq: 1 + from.Int63n(bound)>>from.Intn(62), Gone: from.Intn(3) == 0}
		for range 1 + from.Intn(6) {
			e.Key = append(e.Key, "ab\x00\xff"[from.Intn(4)])
		}
		if !e.Gone {
			e.Until = from.Int63n(bound+1) >> from.Intn(63)
			e.Value = row(from.Int63(), from.Intn(150))
		}
		l = append(l, e)
	}
	slices.SortFunc(l, func(a, b api.Entry) int {
		if order := bytes.Compare(a.Key, b.Key); order != 0 {
			return order
		}
		if a.Seq > b.Seq {
			return -1
		}
		return 1
	})
	return slices.CompactFunc(l, func(a, b api.Entry) bool { return bytes.Equal(a.Key, b.Key) && a.Seq == b.Seq })
}

func TestDecodeOfEncodeIsTheEntries(t *testing.T) {
	for _, l := range good() {
		b, errno := block.Encode(l)
		if errno != api.OK {
			t.Errorf("Encode(%s): %d", show(l), errno)
		}
		wantDecode(t, b, l)
	}
}

func TestCallsOfAnyEntries(t *testing.T) {
	from := rand.New(rand.NewSource(11))
	for range 300 {
		l := anyEntries(from)
		b, errno := block.Encode(l)
		if errno != api.OK || !bytes.Equal(b, bytesOf(l)) || !block.Ordered(l) {
			t.Fatalf("Encode(%s) = %.60x, %d", show(l), b, errno)
		}
		wantDecode(t, b, l)
		for range 20 {
			e := l[from.Intn(len(l))]
			wantSeek(t, b, l, near(e.Key)[from.Intn(6)], e.Seq+from.Int63n(3)-1)
		}
		for range 20 {
			other := bytes.Clone(b)
			other[from.Intn(len(b))] = byte(from.Intn(256))
			wantAsTheWords(t, other)
		}
	}
}

// Seek is the first of Decode's entries that is not ahead.
func TestSeekIsTheFirstOfDecode(t *testing.T) {
	for _, l := range edges() {
		b, _ := block.Encode(l)
		entries, errno := block.Decode(b)
		if errno != api.OK {
			t.Fatalf("Decode of Encode(%s): %d", show(l), errno)
		}
		for i, e := range entries {
			got, ok := block.Seek(b, e.Key, e.Seq)
			if !ok || !sameEntry(got, e) {
				t.Errorf("Seek(%s, place %d) = %s, %v", show(l), i, show(of(got)), ok)
			}
			next, ok := block.Seek(b, e.Key, e.Seq-1)
			if ok != (i+1 < len(entries)) || ok && !sameEntry(next, entries[i+1]) {
				t.Errorf("Seek(%s, behind place %d) = %s, %v", show(l), i, show(of(next)), ok)
			}
		}
	}
}

// Of bytes from another hand each call ends, and what is taken is what would be put.
func FuzzDecode(f *testing.F) {
	f.Add([]byte(nil), []byte(nil), int64(0))
	f.Add(bytesOf(example()), []byte("ab"), int64(3))
	f.Add(bytesOf(many(17)), []byte("key/00014"), int64(4900))
	f.Fuzz(func(t *testing.T, b, key []byte, seq int64) {
		wantAsTheWords(t, b)
		wantAsTheWords(t, withTail(b, 0))
		l, errno := decoded(b)
		if errno == api.OK {
			wantSeek(t, b, l, key, seq)
		}
	})
}
