package batch_test

import (
	"bytes"
	"encoding/binary"
	"encoding/hex"
	"fmt"
	"math"
	"math/rand"
	"slices"
	"strings"
	"testing"

	"halyard/api"
	"halyard/batch"
)

const bound = 1 << 62

// row is a row of n bytes that look like nothing in particular, the same for the same seed.
func row(seed int64, n int) []byte {
	b := make([]byte, n)
	rand.New(rand.NewSource(seed)).Read(b)
	return b
}

// unhex reads bytes as the document writes them: with blanks between.
func unhex(t *testing.T, text string) []byte {
	t.Helper()
	b, err := hex.DecodeString(strings.ReplaceAll(text, " ", ""))
	if err != nil {
		t.Fatal(err)
	}
	return b
}

func join(parts ...[]byte) []byte { return bytes.Join(parts, nil) }

func uvarint(n uint64) []byte { return binary.AppendUvarint(nil, n) }

func withLength(s []byte) []byte { return join(uvarint(uint64(len(s))), s) }

// opBytes and bytesOf are P8.2's own words, to hold the package against; they ask not whether the batch may be.
func opBytes(op api.Op) []byte {
	if op.Gone {
		return join([]byte{1}, withLength(op.Key))
	}
	return join([]byte{0}, withLength(op.Key), uvarint(uint64(op.Until)), withLength(op.Value))
}

func bytesOf(b api.Batch) []byte {
	all := join(uvarint(uint64(b.Seq)), uvarint(uint64(len(b.Ops))))
	for _, op := range b.Ops {
		all = append(all, opBytes(op)...)
	}
	return all
}

// opError is what P8.1 says of one change.
func opError(op api.Op) api.Errno {
	if len(op.Key) < 1 {
		return api.ErrArg
	}
	if op.Until < 0 || uint64(op.Until) > bound {
		return api.ErrArg
	}
	if op.Gone && op.Until != 0 || op.Gone && len(op.Value) != 0 {
		return api.ErrArg
	}
	if len(op.Key) > 512 || len(op.Value) > 2048 {
		return api.ErrLong
	}
	return api.OK
}

func put(key string, until int64, value string) api.Op {
	return api.Op{Key: []byte(key), Until: until, Value: []byte(value)}
}

func away(key string) api.Op { return api.Op{Key: []byte(key), Gone: true} }

func of(seq int64, ops ...api.Op) api.Batch { return api.Batch{Seq: seq, Ops: ops} }

// many are n changes, put and taken away, that may be.
func many(n int) []api.Op {
	ops := make([]api.Op, n)
	for i := range ops {
		ops[i] = put(fmt.Sprint("key", i), int64(i)*1000, strings.Repeat("v", i%50))
		if i%3 == 1 {
			ops[i] = away(fmt.Sprint("key", i))
		}
	}
	return ops
}

// longest is the batch with the most bytes.
func longest() api.Batch {
	ops := make([]api.Op, 400)
	for i := range ops {
		ops[i] = api.Op{Key: row(int64(i), 512), Until: bound, Value: row(int64(-i), 2048)}
	}
	return of(bound-399, ops...)
}

// good are batches that may be, the edges among them.
func good() []api.Batch {
	all := []api.Batch{
		of(5, put("a", 0, "xy"), away("b")),
		of(1, put("a", 0, "")),
		of(1, away("a")),
		of(1, api.Op{Key: []byte{0}}),
		of(1, api.Op{Key: []byte{0xff}, Value: []byte{}}),
		of(1, api.Op{Key: []byte("k"), Gone: true, Value: []byte{}}),
		of(300, put("same", 1, "one"), put("same", 2, "two"), away("same"), put("same", 3, "three")),
		of(bound, put("last", bound, "value")),
		of(bound, away("last")),
		of(bound-1, away("a"), away("b")),
		of(bound-399, many(400)...),
		of(127, put(string(row(1, 512)), bound, string(row(2, 2048)))),
		of(128, away(string(row(3, 512)))),
		longest(),
	}
	for _, n := range []int{1, 2, 3, 127, 128, 129, 399, 400} {
		all = append(all, of(int64(n)*77, many(n)...))
	}
	for shift := range 62 {
		n := int64(1) << shift
		all = append(all, of(n, put("k", n-1, "v")), of(n, put("k", n, "v"), put("k", n+1, "w")))
	}
	for _, n := range []int{1, 2, 126, 127, 128, 129, 255, 256, 511, 512} {
		all = append(all, of(9, put(string(row(4, n)), 0, string(row(5, n))), away(string(row(6, n)))))
	}
	for _, n := range []int{0, 1, 127, 128, 2047, 2048} {
		all = append(all, of(9, put("k", 7, string(row(7, n)))))
	}
	return all
}

// withRoom is a copy of s with other bytes behind its length, and all of the copy.
func withRoom(s []byte) ([]byte, []byte) {
	whole := join(s, bytes.Repeat([]byte{0xee}, 40))
	return whole[:len(s)], whole
}

// guarded is a copy of b with room behind each list's length, and a look whether all of it stayed as it was.
func guarded(b api.Batch) (api.Batch, func(t *testing.T)) {
	ops := make([]api.Op, len(b.Ops), len(b.Ops)+3)
	var wholes, before [][]byte
	for i, op := range b.Ops {
		var key, value []byte
		op.Key, key = withRoom(op.Key)
		op.Value, value = withRoom(op.Value)
		ops[i] = op
		wholes = append(wholes, key, value)
		before = append(before, bytes.Clone(key), bytes.Clone(value))
	}
	behind := ops[len(ops):cap(ops)]
	for i := range behind {
		behind[i] = put("behind", 9, "behind")
	}
	image := fmt.Sprint(ops[:cap(ops)])
	return of(b.Seq, ops...), func(t *testing.T) {
		t.Helper()
		if fmt.Sprint(ops[:cap(ops)]) != image {
			t.Errorf("the argument %s was changed", show(b))
		}
		for i := range wholes {
			if !bytes.Equal(wholes[i], before[i]) {
				t.Errorf("the argument %s was changed in its list %d", show(b), i)
			}
		}
	}
}

// guardedBytes is guarded's like for bytes.
func guardedBytes(d []byte) ([]byte, func(t *testing.T)) {
	given, whole := withRoom(d)
	before := bytes.Clone(whole)
	return given, func(t *testing.T) {
		t.Helper()
		if !bytes.Equal(whole, before) {
			t.Errorf("the argument %.60x was changed", d)
		}
	}
}

// overwrite changes each byte that the slice reaches, also those behind its length.
func overwrite(b []byte) {
	b = b[:cap(b)]
	for i := range b {
		b[i] ^= 0xff
	}
}

func show(b api.Batch) string {
	text := fmt.Sprintf("Seq %d, %d changes: %v", b.Seq, len(b.Ops), b.Ops)
	return text[:min(len(text), 200)]
}

func sameOp(a, b api.Op) bool {
	return bytes.Equal(a.Key, b.Key) && a.Gone == b.Gone && a.Until == b.Until && bytes.Equal(a.Value, b.Value)
}

func same(a, b api.Batch) bool {
	if a.Seq != b.Seq || len(a.Ops) != len(b.Ops) {
		return false
	}
	for i := range a.Ops {
		if !sameOp(a.Ops[i], b.Ops[i]) {
			return false
		}
	}
	return true
}

func zero(b api.Batch) bool { return b.Seq == 0 && b.Ops == nil }

// wantMay asks the three calls that tell May's answer.
func wantMay(t *testing.T, b api.Batch, want api.Errno) {
	t.Helper()
	given, unchanged := guarded(b)
	if got := batch.May(given); got != want {
		t.Errorf("May(%s) = %d, not %d", show(b), got, want)
	}
	d, errno := batch.Encode(given)
	if errno != want || want != api.OK && d != nil {
		t.Errorf("Encode(%s) = %.40x, %d, not %d", show(b), d, errno, want)
	}
	entries, errno := batch.Entries(given)
	if errno != want || want != api.OK && entries != nil {
		t.Errorf("Entries(%s) = %d entries, %d, not %d", show(b), len(entries), errno, want)
	}
	unchanged(t)
}

func wantDecode(t *testing.T, d []byte, want api.Batch) {
	t.Helper()
	given, unchanged := guardedBytes(d)
	got, errno := batch.Decode(given)
	if errno != api.OK || !same(got, want) {
		t.Errorf("Decode(%.60x) = %s, %d, not %s", d, show(got), errno, show(want))
	}
	for _, op := range got.Ops {
		overwrite(op.Key)
		overwrite(op.Value)
	}
	unchanged(t)
}

func wantRefused(t *testing.T, d []byte, want api.Errno) {
	t.Helper()
	given, unchanged := guardedBytes(d)
	if got, errno := batch.Decode(given); errno != want || !zero(got) {
		t.Errorf("Decode(%d bytes %.80x) = %s, %d, not the error %d alone", len(d), d, show(got), errno, want)
	}
	unchanged(t)
}

// P8.1

func TestMayOfBatchesThatMayBe(t *testing.T) {
	for _, b := range good() {
		wantMay(t, b, api.OK)
	}
}

func TestMayOfHowManyChanges(t *testing.T) {
	wantMay(t, api.Batch{}, api.ErrMany)
	wantMay(t, api.Batch{Seq: 1}, api.ErrMany)
	wantMay(t, api.Batch{Seq: 1, Ops: []api.Op{}}, api.ErrMany)
	for _, n := range []int{1, 2, 399, 400} {
		wantMay(t, of(1, many(n)...), api.OK)
	}
	for _, n := range []int{401, 402, 800, 5000} {
		wantMay(t, of(1, many(n)...), api.ErrMany)
	}
}

func TestMayOfTheSeq(t *testing.T) {
	for _, n := range []int{1, 2, 3, 100, 399, 400} {
		ops := many(n)
		last := bound - int64(n) + 1
		for _, seq := range []int64{1, 2, 1 << 40, last - 1, last} {
			wantMay(t, of(seq, ops...), api.OK)
		}
		for _, seq := range []int64{0, -1, -2, -400, math.MinInt64, math.MinInt64 + 1, last + 1, bound + 1, math.MaxInt64 - 400, math.MaxInt64 - 1, math.MaxInt64} {
			wantMay(t, of(seq, ops...), api.ErrArg)
		}
	}
	wantMay(t, of(bound, many(2)...), api.ErrArg)
	wantMay(t, of(bound-398, many(400)...), api.ErrArg)
}

func TestMayOfKeys(t *testing.T) {
	for n, want := range map[int]api.Errno{0: api.ErrArg, 1: api.OK, 2: api.OK, 511: api.OK, 512: api.OK, 513: api.ErrLong, 514: api.ErrLong, 100000: api.ErrLong} {
		wantMay(t, of(1, api.Op{Key: make([]byte, n)}), want)
		wantMay(t, of(1, api.Op{Key: make([]byte, n), Gone: true}), want)
		wantMay(t, of(1, put("ahead", 0, ""), api.Op{Key: make([]byte, n), Until: 5, Value: []byte("v")}), want)
	}
	if got := batch.May(of(1, api.Op{Key: nil})); got != api.ErrArg {
		t.Errorf("a nil key: %d", got)
	}
}

func TestMayOfValues(t *testing.T) {
	for n, want := range map[int]api.Errno{0: api.OK, 1: api.OK, 2047: api.OK, 2048: api.OK, 2049: api.ErrLong, 2050: api.ErrLong, 100000: api.ErrLong} {
		wantMay(t, of(1, api.Op{Key: []byte("k"), Value: make([]byte, n)}), want)
		wantMay(t, of(1, away("ahead"), api.Op{Key: []byte("k"), Until: bound, Value: make([]byte, n)}), want)
	}
	for _, none := range [][]byte{nil, {}} {
		if got := batch.May(of(1, api.Op{Key: []byte("k"), Value: none})); got != api.OK {
			t.Errorf("no value: %d", got)
		}
		if got := batch.May(of(1, api.Op{Key: []byte("k"), Value: none, Gone: true})); got != api.OK {
			t.Errorf("Gone without a value: %d", got)
		}
	}
}

func TestMayOfUntil(t *testing.T) {
	for until, want := range map[int64]api.Errno{0: api.OK, 1: api.OK, 1 << 41: api.OK, bound - 1: api.OK, bound: api.OK, bound + 1: api.ErrArg, math.MaxInt64: api.ErrArg, -1: api.ErrArg, -bound: api.ErrArg, math.MinInt64: api.ErrArg} {
		wantMay(t, of(1, put("k", until, "v")), want)
		wantMay(t, of(1, away("ahead"), put("k", until, "")), want)
	}
}

func TestMayOfGone(t *testing.T) {
	for _, until := range []int64{math.MinInt64, -1, 1, 2, bound, bound + 1} {
		wantMay(t, of(1, api.Op{Key: []byte("k"), Gone: true, Until: until}), api.ErrArg)
		wantMay(t, of(1, put("ahead", 0, ""), api.Op{Key: []byte("k"), Gone: true, Until: until, Value: []byte("v")}), api.ErrArg)
	}
	for _, n := range []int{1, 2048, 2049} {
		wantMay(t, of(1, api.Op{Key: []byte("k"), Gone: true, Value: make([]byte, n)}), api.ErrArg)
	}
	wantMay(t, of(1, api.Op{Key: make([]byte, 513), Gone: true}), api.ErrLong)
	wantMay(t, of(1, api.Op{Key: make([]byte, 513), Gone: true, Until: 1}), api.ErrArg)
	wantMay(t, of(1, api.Op{Key: make([]byte, 513), Gone: true, Value: []byte("v")}), api.ErrArg)
}

// How many is asked ahead of the Seq, the Seq ahead of the changes.
func TestMayTellsTheFirstOfSeveralErrors(t *testing.T) {
	for _, seq := range []int64{-1, 0, 1, bound + 1, math.MaxInt64} {
		wantMay(t, of(seq), api.ErrMany)
		wantMay(t, of(seq, make([]api.Op, 401)...), api.ErrMany)
	}
	long := api.Op{Key: make([]byte, 513)}
	for _, seq := range []int64{-1, 0, bound, math.MaxInt64} {
		wantMay(t, of(seq, long, away("k")), api.ErrArg)
	}
	wantMay(t, of(1, long, away("k")), api.ErrLong)
	wantMay(t, of(1, put("k", 0, string(make([]byte, 2049))), api.Op{}), api.ErrLong)
	wantMay(t, of(1, api.Op{}, put("k", 0, string(make([]byte, 2049)))), api.ErrArg)
	wantMay(t, of(1, api.Op{Key: make([]byte, 513), Until: -1}), api.ErrArg)
	wantMay(t, of(1, api.Op{Value: make([]byte, 2049)}), api.ErrArg)
	wantMay(t, of(1, api.Op{Key: []byte("k"), Until: bound + 1, Value: make([]byte, 2049)}), api.ErrArg)
}

// everyOp are changes with each meeting of what may be wrong of one.
func everyOp() []api.Op {
	var ops []api.Op
	for _, key := range []int{0, 1, 512, 513} {
		for _, until := range []int64{-1, 0, 1, bound, bound + 1} {
			for _, value := range []int{0, 1, 2048, 2049} {
				for _, gone := range []bool{false, true} {
					ops = append(ops, api.Op{Key: make([]byte, key), Until: until, Value: make([]byte, value), Gone: gone})
				}
			}
		}
	}
	return ops
}

func firstError(ops ...api.Op) api.Errno {
	for _, op := range ops {
		if errno := opError(op); errno != api.OK {
			return errno
		}
	}
	return api.OK
}

func TestMayOfAllPairsOfChanges(t *testing.T) {
	ops := everyOp()
	for _, a := range ops {
		for _, b := range ops {
			for _, pair := range [][]api.Op{{a, b}, {b, a}} {
				if got, want := batch.May(of(7, pair...)), firstError(pair...); got != want {
					t.Fatalf("May(%s) = %d, not %d", show(of(7, pair...)), got, want)
				}
			}
		}
	}
	for _, op := range ops {
		wantMay(t, of(7, op), opError(op))
	}
}

func TestMayLooksAtEveryChange(t *testing.T) {
	for _, n := range []int{1, 2, 50, 400} {
		for _, at := range []int{0, n / 2, n - 1} {
			ops := many(n)
			ops[at] = api.Op{}
			wantMay(t, of(1, ops...), api.ErrArg)
			ops[at] = put("k", 0, string(make([]byte, 2049)))
			wantMay(t, of(1, ops...), api.ErrLong)
		}
	}
}

// P8.2

func TestEncodeOfKnownBatches(t *testing.T) {
	for _, c := range []struct {
		b    api.Batch
		want string
	}{
		{of(5, put("a", 0, "xy"), away("b")), "05 02 00 01 61 00 02 78 79 01 01 62"},
		{of(1, put("a", 0, "")), "01 01 00 01 61 00 00"},
		{of(1, api.Op{Key: []byte("a")}), "01 01 00 01 61 00 00"},
		{of(1, away("a")), "01 01 01 01 61"},
		{of(300, put("ab", 300, "c")), "ac 02 01 00 02 61 62 ac 02 01 63"},
		{of(127, away("\x00\xff"), away("\x00\xff")), "7f 02 01 02 00 ff 01 02 00 ff"},
		{of(1<<62, put("k", 1<<62, "")), "80 80 80 80 80 80 80 80 40 01 00 01 6b 80 80 80 80 80 80 80 80 40 00"},
		{of(2, away("b"), put("a", 128, "z"), away("c")), "02 03 01 01 62 00 01 61 80 01 01 7a 01 01 63"},
	} {
		if got, errno := batch.Encode(c.b); errno != api.OK || !bytes.Equal(got, unhex(t, c.want)) {
			t.Errorf("Encode(%s) = %x, %d, not %s", show(c.b), got, errno, c.want)
		}
	}
}

func TestEncodeOfBatchesThatMayBe(t *testing.T) {
	for _, b := range good() {
		given, unchanged := guarded(b)
		got, errno := batch.Encode(given)
		if errno != api.OK || !bytes.Equal(got, bytesOf(b)) {
			t.Errorf("Encode(%s) = %.60x, %d, not %.60x", show(b), got, errno, bytesOf(b))
		}
		overwrite(got)
		unchanged(t)
	}
}

func TestEncodeOfManyHasTheirCountInTwoBytes(t *testing.T) {
	for n, want := range map[int]string{127: "01 7f", 128: "01 80 01", 400: "01 90 03"} {
		got, errno := batch.Encode(of(1, many(n)...))
		if errno != api.OK || !bytes.HasPrefix(got, unhex(t, want)) {
			t.Errorf("%d changes: %.20x, %d", n, got, errno)
		}
	}
}

func TestEncodeTellsMemoryOfItsOwn(t *testing.T) {
	b := of(5, put("a", 0, "xy"), away("b"))
	one, _ := batch.Encode(b)
	two, _ := batch.Encode(b)
	overwrite(two)
	for _, op := range b.Ops {
		overwrite(op.Key)
		overwrite(op.Value)
	}
	b.Ops[0] = away("c")
	if !bytes.Equal(one, unhex(t, "05 02 00 01 61 00 02 78 79 01 01 62")) {
		t.Errorf("what was told became %x", one)
	}
}

// P8.3

func TestDecodeOfKnownBytes(t *testing.T) {
	for text, want := range map[string]api.Batch{
		"05 02 00 01 61 00 02 78 79 01 01 62": of(5, put("a", 0, "xy"), away("b")),
		"01 01 00 01 61 00 00":                of(1, put("a", 0, "")),
		"01 01 01 01 00":                      of(1, away("\x00")),
		"ac 02 01 00 02 61 62 ac 02 01 63":    of(300, put("ab", 300, "c")),
		"80 80 80 80 80 80 80 80 40 01 00 01 6b 80 80 80 80 80 80 80 80 40 00":          of(1<<62, put("k", 1<<62, "")),
		"ff ff ff ff ff ff ff ff 3f 02 01 01 6b 00 01 6b ff ff ff ff ff ff ff ff 3f 00": of(1<<62-1, away("k"), put("k", 1<<62-1, "")),
	} {
		wantDecode(t, unhex(t, text), want)
	}
}

func TestDecodeOfBatchesThatMayBe(t *testing.T) {
	for _, b := range good() {
		wantDecode(t, bytesOf(b), b)
	}
}

// What stands behind the length of a list is not read: the lacking bytes are there.
func TestDecodeOfBytesThatEndAtEveryPlace(t *testing.T) {
	wantRefused(t, nil, api.ErrShort)
	wantRefused(t, []byte{}, api.ErrShort)
	for _, b := range []api.Batch{good()[0], of(300, put("ab", 300, "c"), away("d")), of(bound-2, many(3)...), of(bound-399, many(400)...), of(1, put(string(row(8, 512)), bound, string(row(9, 2048))), away(string(row(10, 512))))} {
		whole := bytesOf(b)
		for cut := range whole {
			if got, errno := batch.Decode(whole[:cut]); errno != api.ErrShort || !zero(got) {
				t.Fatalf("Decode of %d of %d bytes = %s, %d", cut, len(whole), show(got), errno)
			}
		}
	}
}

func TestDecodeOfAnotherKindOfChange(t *testing.T) {
	for c := 2; c < 256; c++ {
		kind := []byte{byte(c)}
		for _, ahead := range []string{"05 01", "05 02 01 01 62", "05 02 00 01 61 00 02 78 79"} {
			for _, behind := range []string{"", "01 61", "01 61 00 00", "80 00", "81 04"} {
				wantRefused(t, join(unhex(t, ahead), kind, unhex(t, behind)), api.ErrForm)
			}
		}
	}
}

// places are what stands ahead of each number of a batch, and what may follow it.
func places() map[string]string {
	return map[string]string{
		"":                                 "01 01 01 61",
		"05":                               "01 01 61",
		"05 01 01":                         "61",
		"05 01 00":                         "61 00 00",
		"05 01 00 01 61":                   "00",
		"05 01 00 01 61 00":                "61",
		"05 02 01 01 62 01":                "61",
		"05 02 01 01 62 00":                "61 00 00",
		"05 02 01 01 62 00 01 61":          "00",
		"05 02 00 01 62 00 00 00 01 61 00": "61",
	}
}

func TestDecodeOfNumbersOfWrongForms(t *testing.T) {
	for ahead, behind := range places() {
		for _, bad := range []string{"80 00", "81 00", "81 80 00", "ff 80 00", "80 80 80 80 80 80 80 80 80 00", "80 80 80 80 80 80 80 80 80 02", "ff ff ff ff ff ff ff ff ff 7f", "80 80 80 80 80 80 80 80 80 80 01", "81 80 80 80 80 80 80 80 80 80 80 80 00"} {
			wantRefused(t, unhex(t, ahead+bad+behind), api.ErrForm)
			wantRefused(t, unhex(t, ahead+bad), api.ErrForm)
		}
		for _, n := range []int{1, 2, 9, 10, 11, 300} {
			wantRefused(t, join(unhex(t, ahead), bytes.Repeat([]byte{0x80}, n)), api.ErrShort)
			wantRefused(t, join(unhex(t, ahead), bytes.Repeat([]byte{0xff}, n)), api.ErrShort)
		}
	}
}

func TestDecodeOfNumbersAboveTheBound(t *testing.T) {
	for _, n := range []uint64{bound + 1, bound + 2, 1 << 63, 1<<63 + 5, math.MaxUint64 - 1, math.MaxUint64} {
		for _, behind := range []string{"", "01", "01 01 01 61", "01 01 01", "80 00", "91 03"} {
			wantRefused(t, join(uvarint(n), unhex(t, behind)), api.ErrForm)
		}
		for _, behind := range []string{"", "00", "01 61", "81 10", "00 00"} {
			wantRefused(t, join(unhex(t, "05 01 00 01 61"), uvarint(n), unhex(t, behind)), api.ErrForm)
			wantRefused(t, join(unhex(t, "05 02 01 01 62 00 01 61"), uvarint(n), unhex(t, behind)), api.ErrForm)
		}
	}
}

func TestDecodeOfTooManyChanges(t *testing.T) {
	for _, n := range []uint64{401, 402, 1 << 16, 1 << 31, 1 << 32, 1<<32 + 1, bound, 1 << 63, 1<<63 + 1, math.MaxUint64} {
		for _, behind := range []string{"", "01 01 61", "00 01 61 00 00", "02", "80 00"} {
			wantRefused(t, join([]byte{5}, uvarint(n), unhex(t, behind)), api.ErrForm)
		}
	}
	wantRefused(t, bytesOf(of(5, many(401)...)), api.ErrForm)
	wantRefused(t, bytesOf(of(0, many(401)...)), api.ErrForm)
}

func TestDecodeOfMoreChangesThanThereAre(t *testing.T) {
	for there := range 5 {
		for told := there + 1; told <= 400; told += 7 {
			d := join([]byte{5}, uvarint(uint64(told)))
			for _, op := range many(there) {
				d = append(d, opBytes(op)...)
			}
			wantRefused(t, d, api.ErrShort)
		}
	}
}

func TestDecodeOfBytesBehindTheLastChange(t *testing.T) {
	for _, b := range []api.Batch{good()[0], of(1, away("a")), of(1, put("a", 0, "")), of(7, many(400)...)} {
		for _, behind := range [][]byte{{0}, {1}, {2}, {0x80}, {0xff}, []byte("x"), opBytes(away("c")), opBytes(put("c", 0, "d")), bytesOf(b)} {
			wantRefused(t, join(bytesOf(b), behind), api.ErrForm)
		}
	}
}

func TestDecodeOfLengthsGreaterThanWhatIsThere(t *testing.T) {
	for ahead, most := range map[string]int{"05 01 00": 512, "05 01 01": 512, "05 02 01 01 62 01": 512, "05 01 00 01 61 00": 2048, "05 02 01 01 62 00 01 61 05": 2048} {
		for _, n := range []int{1, 2, 127, 128, 300, most - 1, most} {
			for _, there := range []int{0, n / 2, n - 1} {
				wantRefused(t, join(unhex(t, ahead), uvarint(uint64(n)), make([]byte, there)), api.ErrShort)
			}
		}
	}
}

// The bound is asked ahead of the bytes: a length above it is ErrLong, whether they are there or not.
func TestDecodeOfLengthsAboveTheBound(t *testing.T) {
	for ahead, most := range map[string]uint64{"05 01 00": 512, "05 01 01": 512, "05 02 01 01 62 01": 512, "05 01 00 01 61 00": 2048, "05 02 01 01 62 00 01 61 05": 2048} {
		for _, n := range []uint64{most + 1, most + 2, 5000, 1 << 31, 1 << 32, 1<<32 + 1, 1 << 62, 1 << 63, math.MaxUint64} {
			for _, there := range []int{0, 1, 6000} {
				wantRefused(t, join(unhex(t, ahead), uvarint(n), make([]byte, there)), api.ErrLong)
			}
		}
	}
	wantRefused(t, bytesOf(of(5, put(string(make([]byte, 513)), 0, ""))), api.ErrLong)
	wantRefused(t, bytesOf(of(5, away(string(make([]byte, 513))))), api.ErrLong)
	wantRefused(t, bytesOf(of(5, put("k", 0, string(make([]byte, 2049))))), api.ErrLong)
	wantRefused(t, bytesOf(of(5, away("b"), put("k", 9, string(make([]byte, 2049))))), api.ErrLong)
}

func TestDecodeOfBytesThatTellABatchThatMayNotBe(t *testing.T) {
	for _, c := range []struct {
		b    api.Batch
		want api.Errno
	}{
		{of(5), api.ErrMany},
		{of(0), api.ErrMany},
		{of(bound), api.ErrMany},
		{of(0, away("a")), api.ErrArg},
		{of(0, many(400)...), api.ErrArg},
		{of(bound, away("a"), away("b")), api.ErrArg},
		{of(bound-398, many(400)...), api.ErrArg},
		{of(5, away("")), api.ErrArg},
		{of(5, put("", 0, "v")), api.ErrArg},
		{of(5, put("", bound, "")), api.ErrArg},
		{of(5, put("a", 0, "v"), away("b"), put("", 1, "v")), api.ErrArg},
		{of(0, put("", 0, "")), api.ErrArg},
	} {
		wantRefused(t, bytesOf(c.b), c.want)
		if got := batch.May(c.b); got != c.want {
			t.Errorf("May(%s) = %d", show(c.b), got)
		}
	}
}

func TestDecodeOfSeveralErrorsTellsTheLeftmost(t *testing.T) {
	for text, want := range map[string]api.Errno{
		"05 02 00 81 04 80 00":       api.ErrLong,  // a key too long, then a number of a wrong form
		"05 02 00 80 00 81 04":       api.ErrForm,  // the other way round
		"05 02 02 81 04":             api.ErrForm,  // a kind, then a key too long
		"05 02 01 81 04 02":          api.ErrLong,  // the other way round
		"80 00 91 03":                api.ErrForm,  // the Seq, then the count
		"05 91 03 01 81 04":          api.ErrForm,  // the count, then a key too long
		"05 02 01 01 61 00 81 04":    api.ErrLong,  // the second key, with nothing behind
		"05 01 00 01 61 00 81 10":    api.ErrLong,  // the value, with nothing behind
		"05 01 00 01 61 00 05 61":    api.ErrShort, // the value lacks bytes
		"05 01 01 05 61":             api.ErrShort, // the key does
		"05 01":                      api.ErrShort, // a change told and none there
		"05 01 00 01 61 80 00 81 10": api.ErrForm,  // an Until, then a value too long
	} {
		wantRefused(t, unhex(t, text), want)
	}
}

// May's errors come last: the form of all the bytes is asked first.
func TestDecodeTellsMaysErrorsLast(t *testing.T) {
	for text, want := range map[string]api.Errno{
		"05 00 00":             api.ErrForm,  // no changes, and a byte behind
		"00 00 78":             api.ErrForm,  // nor a Seq
		"00 01":                api.ErrShort, // no Seq, and no change
		"00":                   api.ErrShort,
		"00 91 03":             api.ErrForm,
		"00 01 02":             api.ErrForm,
		"00 01 01 81 04":       api.ErrLong,
		"00 01 01 01 61 00":    api.ErrForm,
		"05 02 01 00":          api.ErrShort, // no key, and no second change
		"05 02 01 00 02":       api.ErrForm,
		"05 02 01 00 01 81 04": api.ErrLong,
		"05 01 01 00 00":       api.ErrForm,
		"05 01 00 00 00 05":    api.ErrShort,
		"05 01 00 00 00 81 10": api.ErrLong,
		"05 01 00 00 80 00 00": api.ErrForm,
		"05 01 00 00 00 00":    api.ErrArg,
		"05 01 01 00":          api.ErrArg,
		"00 01 01 01 61":       api.ErrArg,
		"05 00":                api.ErrMany,
		"00 00":                api.ErrMany,
	} {
		wantRefused(t, unhex(t, text), want)
	}
}

// lists are all lists of a row of changes.
func lists(ops []api.Op) [][]byte {
	var all [][]byte
	for _, op := range ops {
		all = append(all, op.Key, op.Value)
	}
	return all
}

// wantApart overwrites one list after the other, with what lies behind its length, and looks whether another one changed.
func wantApart(t *testing.T, all [][]byte) {
	t.Helper()
	before := make([][]byte, len(all))
	for i, l := range all {
		before[i] = bytes.Clone(l)
	}
	for i, l := range all {
		overwrite(l)
		for j, other := range all {
			if j != i && !bytes.Equal(other, before[j]) {
				t.Errorf("the lists %d and %d share memory", i, j)
			}
		}
		overwrite(l)
	}
}

func TestDecodeTellsMemoryOfItsOwn(t *testing.T) {
	b := of(9, append(many(30), put("x", 1, "yz"), put("x", 1, "yz"))...)
	d := bytesOf(b)
	got, errno := batch.Decode(d)
	again, _ := batch.Decode(d)
	if errno != api.OK || !same(got, b) {
		t.Fatalf("%s, %d", show(got), errno)
	}
	wantApart(t, append(append(lists(got.Ops), lists(again.Ops)...), d))
	again.Ops[0] = api.Op{}
	overwrite(d)
	if !same(got, b) {
		t.Error("what was told changed with what was handed in")
	}
}

// decoder is P8.3's own words, a step a number, to hold the package against.
type decoder struct {
	rest  []byte
	errno api.Errno
}

func (d *decoder) fail(errno api.Errno) {
	if d.errno == api.OK {
		d.errno = errno
	}
}

func (d *decoder) number(most uint64) uint64 {
	n, size := binary.Uvarint(d.rest)
	ends := slices.ContainsFunc(d.rest, func(c byte) bool { return c < 0x80 })
	switch {
	case d.errno != api.OK:
	case !ends:
		d.fail(api.ErrShort)
	case size <= 0 || size > 1 && d.rest[size-1] == 0:
		d.fail(api.ErrForm)
	case n > most:
		d.fail(api.ErrForm)
	default:
		d.rest = d.rest[size:]
		return n
	}
	return 0
}

func (d *decoder) bytes(most uint64) []byte {
	n := d.number(math.MaxUint64)
	switch {
	case d.errno != api.OK:
	case n > most:
		d.fail(api.ErrLong)
	case n > uint64(len(d.rest)):
		d.fail(api.ErrShort)
	default:
		s := d.rest[:n]
		d.rest = d.rest[n:]
		return s
	}
	return nil
}

func (d *decoder) kind() byte {
	switch {
	case d.errno != api.OK:
	case len(d.rest) == 0:
		d.fail(api.ErrShort)
	case d.rest[0] > 1:
		d.fail(api.ErrForm)
	default:
		c := d.rest[0]
		d.rest = d.rest[1:]
		return c
	}
	return 0
}

func batchOf(whole []byte) (api.Batch, api.Errno) {
	d := &decoder{rest: whole}
	b := api.Batch{Seq: int64(d.number(bound))}
	for range d.number(400) {
		op := api.Op{Gone: d.kind() == 1, Key: d.bytes(512)}
		if !op.Gone {
			op.Until = int64(d.number(bound))
			op.Value = d.bytes(2048)
		}
		b.Ops = append(b.Ops, op)
	}
	if len(d.rest) > 0 {
		d.fail(api.ErrForm)
	}
	if len(b.Ops) == 0 {
		d.fail(api.ErrMany)
	}
	if b.Seq < 1 || b.Seq+int64(len(b.Ops))-1 > bound {
		d.fail(api.ErrArg)
	}
	d.fail(firstError(b.Ops...))
	if d.errno != api.OK {
		return api.Batch{}, d.errno
	}
	return b, api.OK
}

func wantAsTheWords(t *testing.T, d []byte) {
	t.Helper()
	want, wantErrno := batchOf(d)
	got, errno := batch.Decode(d)
	if errno != wantErrno || !same(got, want) || errno != api.OK && !zero(got) {
		t.Fatalf("Decode(%.80x) = %s, %d, not %s, %d", d, show(got), errno, show(want), wantErrno)
	}
	if errno != api.OK {
		return
	}
	if back, errno := batch.Encode(got); errno != api.OK || !bytes.Equal(back, d) {
		t.Fatalf("Encode of Decode of %.80x = %.80x, %d", d, back, errno)
	}
}

func TestDecodeOfAllShortRows(t *testing.T) {
	alphabet := []byte{0, 1, 2, 0x80, 0x91, 4}
	last := [][]byte{nil}
	for range 7 {
		var longer [][]byte
		for _, r := range last {
			for _, c := range alphabet {
				next := append(bytes.Clone(r), c)
				wantAsTheWords(t, next)
				wantAsTheWords(t, join([]byte{5}, next))
				longer = append(longer, next)
			}
		}
		last = longer
	}
}

func TestDecodeOfBytesWithOneChanged(t *testing.T) {
	for _, b := range []api.Batch{good()[0], of(300, put("ab", 300, "c"), away("d")), of(bound-2, many(3)...)} {
		whole := bytesOf(b)
		for at := range whole {
			for c := range 256 {
				other := bytes.Clone(whole)
				other[at] = byte(c)
				wantAsTheWords(t, other)
			}
			wantAsTheWords(t, append(bytes.Clone(whole[:at]), whole[at+1:]...))
			wantAsTheWords(t, join(whole[:at], []byte{0x80}, whole[at:]))
		}
	}
}

// P8.4

func TestEntriesOfTheDocumentsExample(t *testing.T) {
	got, errno := batch.Entries(of(5, put("a", 0, "xy"), away("b"), put("c", 9, "")))
	if errno != api.OK || len(got) != 3 {
		t.Fatalf("%v, %d", got, errno)
	}
	for i, want := range []string{"a 5 false 0 xy", "b 6 true 0 ", "c 7 false 9 "} {
		e := got[i]
		if told := fmt.Sprintf("%s %d %v %d %s", e.Key, e.Seq, e.Gone, e.Until, e.Value); told != want {
			t.Errorf("%q, not %q", told, want)
		}
	}
}

func TestEntriesOfBatchesThatMayBe(t *testing.T) {
	for _, b := range good() {
		given, unchanged := guarded(b)
		got, errno := batch.Entries(given)
		if errno != api.OK || len(got) != len(b.Ops) {
			t.Errorf("Entries(%s) = %d entries, %d", show(b), len(got), errno)
			continue
		}
		for i, e := range got {
			if e.Seq != b.Seq+int64(i) || !sameOp(api.Op{Key: e.Key, Gone: e.Gone, Until: e.Until, Value: e.Value}, b.Ops[i]) {
				t.Errorf("Entries(%s): %d is %.100v", show(b), i, e)
			}
			overwrite(e.Key)
			overwrite(e.Value)
		}
		unchanged(t)
	}
}

func TestEntriesHaveTheGreatestNumber(t *testing.T) {
	got, errno := batch.Entries(of(bound-399, many(400)...))
	if errno != api.OK || len(got) != 400 || got[0].Seq != bound-399 || got[399].Seq != bound {
		t.Errorf("%d entries, %d", len(got), errno)
	}
}

func TestEntriesTellMemoryOfTheirOwn(t *testing.T) {
	shared := append(make([]byte, 0, 50), "both"...)
	b := of(9, append(many(20), api.Op{Key: shared, Value: shared}, api.Op{Key: shared[:2], Value: shared[2:]})...)
	got, errno := batch.Entries(b)
	if errno != api.OK || len(got) != 22 {
		t.Fatalf("%d entries, %d", len(got), errno)
	}
	all := [][]byte{shared}
	for _, e := range got {
		all = append(all, e.Key, e.Value)
	}
	wantApart(t, append(all, lists(b.Ops[:20])...))
	b.Ops[0] = away("other")
	overwrite(shared)
	if string(got[0].Key) != "key0" || string(got[20].Key) != "both" || string(got[20].Value) != "both" || string(got[21].Key) != "bo" || string(got[21].Value) != "th" {
		t.Error("what was told changed with what was handed in")
	}
}

// P8.5

func TestDecodeOfEncodeIsTheBatch(t *testing.T) {
	for _, b := range good() {
		d, errno := batch.Encode(b)
		if errno != api.OK {
			t.Errorf("Encode(%s): %d", show(b), errno)
		}
		wantDecode(t, d, b)
	}
}

func anyBatch(from *rand.Rand) api.Batch {
	ops := make([]api.Op, 1+from.Intn(12))
	for i := range ops {
		ops[i] = api.Op{Key: row(from.Int63(), 1+from.Intn(20)), Gone: from.Intn(3) == 0}
		if !ops[i].Gone {
			ops[i].Until = from.Int63n(bound+1) >> from.Intn(63)
			ops[i].Value = row(from.Int63(), from.Intn(150))
		}
	}
	return of(1+from.Int63n(bound-20)>>from.Intn(62), ops...)
}

func TestDecodeOfEncodeOfAnyBatches(t *testing.T) {
	from := rand.New(rand.NewSource(11))
	for range 300 {
		b := anyBatch(from)
		d, errno := batch.Encode(b)
		if errno != api.OK || !bytes.Equal(d, bytesOf(b)) {
			t.Fatalf("Encode(%s) = %.60x, %d", show(b), d, errno)
		}
		wantDecode(t, d, b)
		for cut := range d {
			wantRefused(t, d[:cut], api.ErrShort)
		}
	}
}

func TestShorterBeginningsOfEncodeAreErrors(t *testing.T) {
	for _, b := range good() {
		d, _ := batch.Encode(b)
		// Of the long ones some places must do, each of the first and the last ones among them.
		step := 1 + len(d)/500
		for cut := 0; cut < len(d); {
			if got, errno := batch.Decode(d[:cut]); errno == api.OK || !zero(got) {
				t.Errorf("Decode of %d of %d bytes = %s, %d", cut, len(d), show(got), errno)
			}
			if cut < 100 || cut+step > len(d)-20 {
				cut++
			} else {
				cut += step
			}
		}
	}
}

// Bytes of which each number is long and no change is whole must not take longer than they are.
func TestDecodeOfLongRowsThatAreNothing(t *testing.T) {
	for _, c := range []byte{0, 1, 2, 0x7f, 0x80, 0xff} {
		wantAsTheWords(t, bytes.Repeat([]byte{c}, 1<<20))
		wantAsTheWords(t, join([]byte{5, 1, 0}, bytes.Repeat([]byte{c}, 1<<20)))
	}
}

// Of bytes from another hand each call ends, and what is taken is what would be put.
func FuzzDecode(f *testing.F) {
	f.Add([]byte(nil))
	f.Add(bytesOf(of(5, put("a", 0, "xy"), away("b"))))
	f.Add(bytesOf(of(bound-2, many(3)...)))
	f.Add([]byte("\x05\x01\x00\x01a\x81\x80\x80\x80\x80\x80\x80\x80\x40\x00"))
	f.Fuzz(wantAsTheWords)
}
