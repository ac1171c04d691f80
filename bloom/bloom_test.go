package bloom_test

import (
	"bytes"
	"hash/fnv"
	"math"
	"math/big"
	"math/rand"
	"slices"
	"strconv"
	"testing"

	"halyard/api"
	"halyard/bloom"
)

var twoTo64 = new(big.Int).Lsh(big.NewInt(1), 64)

func number(n uint64) *big.Int { return new(big.Int).SetUint64(n) }

// hashOf is the chapter's own words of the hash, in numbers that do not wrap by themselves.
func hashOf(key []byte) uint64 {
	h := number(0xcbf29ce484222325)
	for _, c := range key {
		h.Xor(h, number(uint64(c)))
		h.Mul(h, number(0x100000001b3))
		h.Mod(h, twoTo64)
	}
	return h.Uint64()
}

// sumOf is h + j * (h / 2^33 * 2 + 1), ahead of both remainders.
func sumOf(h, j uint64) *big.Int {
	step := number(h)
	step.Div(step, number(1<<33))
	step.Mul(step, number(2))
	step.Add(step, number(1))
	step.Mul(step, number(j))
	return step.Add(step, number(h))
}

// placesOf is the chapter's own words of the probes.
func placesOf(key []byte, m int) []int {
	var places []int
	h := hashOf(key)
	for j := range uint64(6) {
		place := sumOf(h, j)
		place.Mod(place, twoTo64)
		place.Mod(place, number(uint64(m)))
		places = append(places, int(place.Int64()))
	}
	return places
}

// filterOf is built bit by bit: first the bits one by one, then each byte as the sum of its bits' weights.
func filterOf(keys [][]byte) []byte {
	m := 10 * len(keys)
	if m < 64 {
		m = 64
	}
	for m%8 != 0 {
		m++
	}
	lit := make([]bool, m)
	for _, key := range keys {
		for _, place := range placesOf(key, m) {
			lit[place] = true
		}
	}
	return bytesOf(lit)
}

func bytesOf(lit []bool) []byte {
	filter := make([]byte, len(lit)/8)
	weight := []byte{1, 2, 4, 8, 16, 32, 64, 128}
	for place, on := range lit {
		if on {
			filter[place/8] += weight[place%8]
		}
	}
	return filter
}

// hasOf is P10.2's own words.
func hasOf(filter, key []byte) bool {
	if len(filter) == 0 || len(filter) > 1<<20 {
		return true
	}
	for _, place := range placesOf(key, 8*len(filter)) {
		if !lit(filter, place) {
			return false
		}
	}
	return true
}

func lit(filter []byte, place int) bool { return filter[place/8]>>(place%8)%2 == 1 }

// only is a filter of n bytes in which the key's bits alone are 1.
func only(n int, key []byte) []byte {
	bits := make([]bool, 8*n)
	for _, place := range placesOf(key, 8*n) {
		bits[place] = true
	}
	return bytesOf(bits)
}

// row is a row of n bytes that look like nothing in particular, the same for the same seed.
func row(seed int64, n int) []byte {
	b := make([]byte, n)
	rand.New(rand.NewSource(seed)).Read(b)
	return b
}

// numbered are n keys that look alike.
func numbered(name string, n int) [][]byte {
	keys := make([][]byte, n)
	for i := range keys {
		keys[i] = []byte(name + strconv.Itoa(i))
	}
	return keys
}

// zeroHash is a key whose hash is 0: its step is 1.
var zeroHash = []byte{0xd5, 0x6b, 0xb9, 0x53, 0x42, 0x87, 0x08, 0x36}

// wrapping are keys by the first of their probes that passes 2^64 (0: none does, though the hash is among the greatest).
var wrapping = []struct {
	key   string
	hash  uint64
	first uint64
}{
	{"p24fcft", 0xfffffffa4b28f160, 0},
	{"5qile5i", 0xffffffff874b6f37, 1},
	{"kitgk32", 0xffffffff400b468c, 1},
	{"1oh5csz", 0xfffffffe5432755e, 2},
	{"ub10ks0", 0xfffffffec049d787, 2},
	{"oy0haox", 0xfffffffdc0cafaf3, 3},
	{"hcy4gw0", 0xfffffffd916a2b0d, 3},
	{"rk2cgqy", 0xfffffffca9262c20, 4},
	{"mf2jodc", 0xfffffffcc92407ea, 4},
	{"bwpmgwx", 0xfffffffbf1d60609, 5},
	{"hpeckrg", 0xfffffffb291be851, 5},
}

// edgeKeys: of no byte, of one, of many, of bytes 0 and ff, beginnings of one another, with hashes at both ends.
func edgeKeys() [][]byte {
	keys := [][]byte{nil, {}, {0}, {0, 0}, {0, 0, 0}, make([]byte, 512), {0xff}, {0xff, 0xff}, bytes.Repeat([]byte{0xff}, 512), {0, 0xff}, {0xff, 0}}
	for _, text := range []string{"a", "ab", "abc", "b", "ba", "k", "key", "key0", "key00", "5yn5bmj", "fih4mir"} {
		keys = append(keys, []byte(text))
	}
	for _, w := range wrapping {
		keys = append(keys, []byte(w.key))
	}
	return append(keys, zeroHash, row(1, 511), row(2, 512), row(3, 513), row(4, 5000))
}

// shortKeys are those of edgeKeys that are soon worked out.
func shortKeys() [][]byte {
	return slices.DeleteFunc(edgeKeys(), func(key []byte) bool { return len(key) > 8 })
}

// guarded is b with room behind its length, and a look whether all of it stayed as it was.
func guarded(b []byte) ([]byte, func(t *testing.T)) {
	whole := append(append([]byte{}, b...), bytes.Repeat([]byte{0xee}, 40)...)
	before := bytes.Clone(whole)
	return whole[:len(b)], func(t *testing.T) {
		t.Helper()
		if !bytes.Equal(whole, before) {
			t.Errorf("the argument %.40x was changed", b)
		}
	}
}

// guardedKeys is the keys, each guarded, with further keys behind the list's length, and a look whether all stayed as it was.
func guardedKeys(keys [][]byte) ([][]byte, func(t *testing.T)) {
	var all [][]byte
	var looks []func(t *testing.T)
	for _, key := range append(slices.Clone(keys), []byte("behind"), []byte("the end")) {
		given, same := guarded(key)
		all = append(all, given)
		looks = append(looks, same)
	}
	before := slices.Clone(all)
	return all[:len(keys)], func(t *testing.T) {
		t.Helper()
		for i, same := range looks {
			same(t)
			if len(all[i]) != len(before[i]) || cap(all[i]) != cap(before[i]) || &all[i][:1][0] != &before[i][:1][0] {
				t.Errorf("the list's key %d is another one", i)
			}
		}
	}
}

// overwrite changes each byte that the slice reaches, also those behind its length.
func overwrite(b []byte) {
	b = b[:cap(b)]
	for i := range b {
		b[i] ^= 0xff
	}
}

func wantHash(t *testing.T, key []byte, want uint64) {
	t.Helper()
	given, same := guarded(key)
	if got := bloom.Hash(given); got != want {
		t.Errorf("Hash of %d bytes %.40x = %016x, not %016x", len(key), key, got, want)
	}
	same(t)
}

// wantFilter holds what Build tells against the filter built plainly, and tells it.
func wantFilter(t *testing.T, keys [][]byte) []byte {
	t.Helper()
	given, same := guardedKeys(keys)
	got, errno := bloom.Build(given)
	if want := filterOf(keys); errno != api.OK || !bytes.Equal(got, want) {
		t.Errorf("Build of %d keys = %.40x, %d, not %.40x", len(keys), got, errno, want)
	}
	kept := bytes.Clone(got)
	overwrite(got)
	same(t)
	return kept
}

func wantHas(t *testing.T, filter, key []byte, want bool) {
	t.Helper()
	givenFilter, sameFilter := guarded(filter)
	givenKey, sameKey := guarded(key)
	if got := bloom.Has(givenFilter, givenKey); got != want {
		t.Errorf("Has(%d bytes %.40x, %.40x) = %v", len(filter), filter, key, got)
	}
	sameFilter(t)
	sameKey(t)
}

func wantProbes(t *testing.T, key []byte, m int, want []int) {
	t.Helper()
	given, same := guarded(key)
	got := bloom.Probes(given, m)
	if !slices.Equal(got, want) {
		t.Errorf("Probes(%.40x, %d) = %v, not %v", key, m, got, want)
	}
	same(t)
}

// P10.1: Hash

func TestHashOfKnownKeys(t *testing.T) {
	for _, c := range []struct {
		key  string
		want uint64
	}{
		{"", 0xcbf29ce484222325},
		{"a", 0xaf63dc4c8601ec8c},
		{"b", 0xaf63df4c8601f1a5},
		{"foobar", 0x85944171f73967e8},
		{"\x00", 0xaf63bd4c8601b7df},
		{"\xff", 0xaf64724c8602eb6e},
		{string(zeroHash), 0},
	} {
		wantHash(t, []byte(c.key), c.want)
	}
}

func TestHashOfNoByte(t *testing.T) {
	if bloom.Hash(nil) != 0xcbf29ce484222325 || bloom.Hash([]byte{}) != 0xcbf29ce484222325 {
		t.Errorf("Hash of no byte: %016x, %016x", bloom.Hash(nil), bloom.Hash([]byte{}))
	}
}

func TestHashOfEachByteAndEachPair(t *testing.T) {
	for one := range 256 {
		wantHash(t, []byte{byte(one)}, hashOf([]byte{byte(one)}))
		for two := range 256 {
			key := []byte{byte(one), byte(two)}
			h := fnv.New64a()
			h.Write(key)
			wantHash(t, key, h.Sum64())
		}
	}
}

func TestHashOfEveryLength(t *testing.T) {
	for n := range 600 {
		for _, key := range [][]byte{row(int64(n), n), make([]byte, n), bytes.Repeat([]byte{0xff}, n)} {
			wantHash(t, key, hashOf(key))
		}
	}
}

func TestHashOfLongKeysAndTheEdges(t *testing.T) {
	for _, key := range append(edgeKeys(), row(9, 100000), make([]byte, 100000), bytes.Repeat([]byte{0xff}, 100000)) {
		wantHash(t, key, hashOf(key))
	}
	for _, w := range wrapping {
		wantHash(t, []byte(w.key), w.hash)
	}
}

// P10.1: Build

func TestBuildOfNoKeys(t *testing.T) {
	for _, keys := range [][][]byte{nil, {}} {
		got, errno := bloom.Build(keys)
		if errno != api.OK || !bytes.Equal(got, make([]byte, 8)) {
			t.Errorf("Build of nothing = %x, %d", got, errno)
		}
	}
	wantFilter(t, nil)
}

// The bits of a filter written out: the hash of "a" is af63dc4c8601ec8c, so the step is af63dc4d, and modulo 64 (where 2^64 leaves nothing) the places go from 12 by 13: 12, 25, 38, 51, 0, 13.
func TestBuildOfOneKnownKey(t *testing.T) {
	got, errno := bloom.Build([][]byte{[]byte("a")})
	want := []byte{1, 1<<4 + 1<<5, 0, 1 << 1, 1 << 6, 0, 1 << 3, 0}
	if errno != api.OK || !bytes.Equal(got, want) {
		t.Errorf("Build of a = %x, %d, not %x", got, errno, want)
	}
	got, errno = bloom.Build([][]byte{zeroHash})
	if errno != api.OK || !bytes.Equal(got, []byte{0x3f, 0, 0, 0, 0, 0, 0, 0}) {
		t.Errorf("Build of the key whose places are 0 to 5 = %x, %d", got, errno)
	}
}

func TestBuildOfOneKey(t *testing.T) {
	for _, key := range edgeKeys() {
		if got := wantFilter(t, [][]byte{key}); len(got) != 8 {
			t.Errorf("a filter of one key has %d bytes", len(got))
		}
	}
	for c := range 256 {
		wantFilter(t, [][]byte{{byte(c)}})
	}
}

func TestBytesOfAFilter(t *testing.T) {
	for _, c := range []struct{ keys, want int }{
		{0, 8}, {1, 8}, {5, 8}, {6, 8}, {7, 9}, {8, 10}, {9, 12}, {10, 13}, {11, 14}, {12, 15}, {13, 17}, {14, 18}, {15, 19}, {16, 20}, {17, 22},
		{20, 25}, {100, 125}, {101, 127}, {102, 128}, {103, 129}, {104, 130}, {99999, 124999}, {100000, 125000},
	} {
		got, errno := bloom.Build(make([][]byte, c.keys))
		if errno != api.OK || len(got) != c.want {
			t.Errorf("Build of %d keys: %d bytes, %d, not %d bytes", c.keys, len(got), errno, c.want)
		}
	}
}

func TestBuildOfEveryNumberOfKeys(t *testing.T) {
	for n := range 140 {
		wantFilter(t, numbered("key", n))
		wantFilter(t, numbered("\x00\xff", n))
		rows := make([][]byte, n)
		for i := range rows {
			rows[i] = row(int64(1000*n+i), i%40)
		}
		wantFilter(t, rows)
	}
}

func TestBuildOfManyKeys(t *testing.T) {
	for _, n := range []int{1000, 1001, 4096, 20003} {
		wantFilter(t, numbered("a/topic/", n))
	}
}

func TestBuildOfTheEdges(t *testing.T) {
	keys := edgeKeys()
	for n := range len(keys) + 1 {
		wantFilter(t, keys[:n])
		wantFilter(t, keys[n:])
	}
}

func TestBuildOfKeysWhosePlacesWrap(t *testing.T) {
	for _, w := range wrapping {
		for _, n := range []int{0, 5, 6, 9, 30} {
			wantFilter(t, append(numbered("beside", n), []byte(w.key)))
		}
	}
}

func TestBuildOfTheSameKeyTwice(t *testing.T) {
	for _, key := range edgeKeys() {
		for _, n := range []int{2, 6, 7, 8, 50} {
			got := wantFilter(t, slices.Repeat([][]byte{key}, n))
			if len(got) != (max(64, 10*n)+7)/8 {
				t.Errorf("%d times one key: %d bytes", n, len(got))
			}
		}
	}
}

func TestBuildOfBeginningsOfOneAnother(t *testing.T) {
	for _, whole := range [][]byte{row(5, 100), make([]byte, 100), bytes.Repeat([]byte{0xff}, 100)} {
		var keys [][]byte
		for n := range len(whole) + 1 {
			keys = append(keys, whole[:n])
		}
		filter := wantFilter(t, keys)
		for _, key := range keys {
			wantHas(t, filter, key, true)
		}
	}
}

func TestMostKeysAndOneMore(t *testing.T) {
	keys := numbered("key", 100001)
	got := wantFilter(t, keys[:100000])
	for _, key := range keys[:100000] {
		if !bloom.Has(got, key) {
			t.Fatalf("a filter of 100000 keys has no %s", key)
		}
	}
	wantFilter(t, keys[1:])
	for _, many := range [][][]byte{keys, make([][]byte, 100001), slices.Repeat([][]byte{[]byte("k")}, 100001), make([][]byte, 300000)} {
		if got, errno := bloom.Build(many); errno != api.ErrMany || got != nil {
			t.Errorf("Build of %d keys = %d bytes, %d, not ErrMany alone", len(many), len(got), errno)
		}
	}
}

func TestManyKeysAreNotChanged(t *testing.T) {
	given, same := guardedKeys(numbered("key", 100001))
	bloom.Build(given)
	same(t)
}

func TestKeysBehindTheListsLengthDoNotCount(t *testing.T) {
	keys := numbered("key", 100003)
	for _, n := range []int{0, 1, 6, 7, 100} {
		got, errno := bloom.Build(keys[:n])
		if errno != api.OK || !bytes.Equal(got, filterOf(keys[:n])) {
			t.Errorf("Build of the first %d of a longer list = %.40x, %d", n, got, errno)
		}
	}
}

// P10.2

func TestHasOfAFilterWithoutBytes(t *testing.T) {
	for _, key := range edgeKeys() {
		if !bloom.Has(nil, key) || !bloom.Has([]byte{}, key) || !bloom.Has([]byte{0, 0, 0}[:0], key) {
			t.Errorf("a filter without bytes rules %.40x out", key)
		}
	}
}

func TestHasOfOneByte(t *testing.T) {
	for v := range 256 {
		filter := []byte{byte(v)}
		for _, key := range edgeKeys() {
			wantHas(t, filter, key, hasOf(filter, key))
		}
	}
	wantHas(t, []byte{0x3f}, zeroHash, true)
	wantHas(t, []byte{0xff}, zeroHash, true)
	wantHas(t, []byte{0xfc}, zeroHash, false)
	wantHas(t, []byte{0}, zeroHash, false)
}

func TestHasOfBytes0AndFf(t *testing.T) {
	for _, n := range []int{1, 2, 3, 7, 8, 9, 10, 125, 1000, 125000} {
		for _, key := range edgeKeys() {
			wantHas(t, make([]byte, n), key, false)
			wantHas(t, bytes.Repeat([]byte{0xff}, n), key, true)
		}
	}
}

func TestHasOfTheLongestFilterAndOneByteMore(t *testing.T) {
	const most = 1 << 20
	noughts, full := make([]byte, most+1), bytes.Repeat([]byte{0xff}, most+1)
	for _, key := range edgeKeys() {
		if bloom.Has(noughts[:most], key) || !bloom.Has(full[:most], key) {
			t.Errorf("a filter of 2^20 bytes: %.40x", key)
		}
		if bloom.Has(noughts[:most-1], key) || !bloom.Has(full[:most-1], key) {
			t.Errorf("a filter of 2^20 - 1 bytes: %.40x", key)
		}
		if !bloom.Has(noughts, key) || !bloom.Has(full, key) {
			t.Errorf("a filter of 2^20 + 1 bytes rules %.40x out", key)
		}
	}
	if !bloom.Has(make([]byte, 1<<22), []byte("a")) {
		t.Error("a filter of 2^22 bytes rules a key out")
	}
	key := []byte("k")
	wantHas(t, only(most, key), key, true)
	wantHas(t, only(most, key), []byte("l"), false)
	wantHas(t, noughts, key, true)
}

func TestHasOfTheKeysOwnBitsAlone(t *testing.T) {
	for _, n := range []int{1, 2, 3, 5, 8, 9, 13, 100, 127, 1000} {
		for _, key := range edgeKeys() {
			wantHas(t, only(n, key), key, true)
		}
	}
}

func TestHasWithOneBitOfAProbeCleared(t *testing.T) {
	for _, n := range []int{1, 2, 3, 5, 8, 9, 13, 100, 127, 1000, 1 << 15} {
		for _, key := range edgeKeys() {
			for _, place := range placesOf(key, 8*n) {
				for _, filter := range [][]byte{only(n, key), bytes.Repeat([]byte{0xff}, n)} {
					filter[place/8] &^= 1 << (place % 8)
					wantHas(t, filter, key, false)
				}
			}
		}
	}
}

// Each bit but the key's six counts for nothing.
func TestHasWithAnotherBitCleared(t *testing.T) {
	for _, n := range []int{1, 8, 9, 50} {
		for _, key := range edgeKeys() {
			filter := bytes.Repeat([]byte{0xff}, n)
			places := placesOf(key, 8*n)
			for place := range 8 * n {
				filter[place/8] ^= 1 << (place % 8)
				wantHas(t, filter, key, !slices.Contains(places, place))
				filter[place/8] ^= 1 << (place % 8)
			}
		}
	}
}

func TestHasOfAnyBytes(t *testing.T) {
	for n := range 60 {
		for seed := range 6 {
			dense := row(int64(1000*n+seed), n)
			for i, c := range row(int64(n+seed), n) {
				dense[i] |= c
			}
			for _, key := range edgeKeys() {
				wantHas(t, dense, key, hasOf(dense, key))
			}
		}
	}
}

func TestHasOfOtherKeys(t *testing.T) {
	for _, n := range []int{1, 6, 7, 40, 1000} {
		filter := wantFilter(t, numbered("key", n))
		met := 0
		for _, key := range numbered("other", 1000) {
			got := bloom.Has(filter, key)
			if got != hasOf(filter, key) {
				t.Errorf("Has of %d keys, %s: %v", n, key, got)
			}
			if got {
				met++
			}
		}
		if met > 300 {
			t.Errorf("of 1000 keys that are not among %d, %d are not ruled out", n, met)
		}
	}
}

// P10.3

func TestProbesOfKnownKeys(t *testing.T) {
	wantProbes(t, []byte("a"), 64, []int{12, 25, 38, 51, 0, 13})
	wantProbes(t, zeroHash, 1000, []int{0, 1, 2, 3, 4, 5})
	wantProbes(t, zeroHash, 4, []int{0, 1, 2, 3, 0, 1})
	wantProbes(t, nil, math.MaxInt, []int{0x4bf29ce484222326, 0x4bf29ce55014c00b, 0x4bf29ce61c075cf0, 0x4bf29ce6e7f9f9d5, 0x4bf29ce7b3ec96ba, 0x4bf29ce87fdf339f})
}

func TestProbesOfEverySmallM(t *testing.T) {
	for m := 1; m < 200; m++ {
		for _, key := range shortKeys() {
			wantProbes(t, key, m, placesOf(key, m))
		}
	}
}

func TestProbesOfOneBit(t *testing.T) {
	for _, key := range edgeKeys() {
		wantProbes(t, key, 1, []int{0, 0, 0, 0, 0, 0})
	}
}

func TestProbesOfNoBits(t *testing.T) {
	for _, m := range []int{0, -1, -2, -6, -64, -1 << 31, math.MinInt + 1, math.MinInt} {
		for _, key := range edgeKeys() {
			if got := bloom.Probes(key, m); len(got) != 0 {
				t.Errorf("Probes(%.40x, %d) = %v", key, m, got)
			}
		}
	}
}

// greatMs: about each power of two, and some between.
func greatMs() []int {
	ms := []int{1000000, 1001, 999999937, 1<<61 - 1, math.MaxInt - 1, math.MaxInt}
	for shift := 7; shift < 63; shift++ {
		ms = append(ms, 1<<shift-1, 1<<shift, 1<<shift+1)
	}
	return ms
}

func TestProbesOfGreatM(t *testing.T) {
	for _, m := range greatMs() {
		for _, key := range shortKeys() {
			wantProbes(t, key, m, placesOf(key, m))
		}
	}
}

func TestProbesThatWrap(t *testing.T) {
	for _, w := range wrapping {
		key := []byte(w.key)
		for j := range uint64(6) {
			passes := sumOf(w.hash, j).Cmp(twoTo64) >= 0
			if passes != (w.first > 0 && j >= w.first) {
				t.Errorf("the probe %d of %s passes 2^64: %v", j, key, passes)
			}
		}
		// Of a power of two the wrap leaves no trace: others must be asked.
		for _, m := range append(greatMs(), 3, 5, 7, 72, 80, 1000) {
			wantProbes(t, key, m, placesOf(key, m))
		}
	}
	wantProbes(t, []byte("5qile5i"), math.MaxInt, []int{0x7fffffff874b6f38, 0x874b6f36, 0x1874b6f35, 0x2874b6f34, 0x3874b6f33, 0x4874b6f32})
}

func TestProbesStayWithinTheBits(t *testing.T) {
	from := rand.New(rand.NewSource(6))
	for range 20000 {
		key, m := row(from.Int63(), from.Intn(20)), 1+from.Intn(1<<from.Intn(40))
		got := bloom.Probes(key, m)
		if len(got) != 6 || slices.Min(got) < 0 || slices.Max(got) >= m {
			t.Fatalf("Probes(%x, %d) = %v", key, m, got)
		}
	}
}

// P10.4

func TestEachKeyIsThere(t *testing.T) {
	for n := range 200 {
		keys := numbered("key", n)
		filter := wantFilter(t, keys)
		for _, key := range keys {
			wantHas(t, filter, key, true)
		}
	}
	keys := append(edgeKeys(), numbered("", 3000)...)
	filter := wantFilter(t, keys)
	for _, key := range keys {
		wantHas(t, filter, key, true)
	}
}

func TestEachOrderBuildsTheSame(t *testing.T) {
	keys := [][]byte{nil, []byte("5qile5i"), []byte("a"), []byte("ab"), {0}, {0xff}, zeroHash}
	want := wantFilter(t, keys)
	var permute func(n int)
	permute = func(n int) {
		if n == len(keys) {
			got, errno := bloom.Build(keys)
			if errno != api.OK || !bytes.Equal(got, want) {
				t.Fatalf("Build of %q = %x, %d, not %x", keys, got, errno, want)
			}
			return
		}
		for i := n; i < len(keys); i++ {
			keys[n], keys[i] = keys[i], keys[n]
			permute(n + 1)
			keys[n], keys[i] = keys[i], keys[n]
		}
	}
	permute(0)
}

func TestManyKeysInAnyOrderBuildTheSame(t *testing.T) {
	from := rand.New(rand.NewSource(8))
	for _, n := range []int{2, 6, 7, 64, 999, 5000} {
		keys := numbered("key", n)
		keys[n/2] = bytes.Clone(keys[0])
		want := wantFilter(t, keys)
		for range 5 {
			from.Shuffle(n, func(i, j int) { keys[i], keys[j] = keys[j], keys[i] })
			got, errno := bloom.Build(keys)
			if errno != api.OK || !bytes.Equal(got, want) {
				t.Errorf("Build of %d keys in another order = %.40x, %d, not %.40x", n, got, errno, want)
			}
			for _, key := range keys {
				wantHas(t, got, key, true)
			}
		}
		slices.Reverse(keys)
		if got, _ := bloom.Build(keys); !bytes.Equal(got, want) {
			t.Errorf("Build of %d keys from the last to the first = %.40x", n, got)
		}
	}
}

func TestKeysThatAreThereManyTimes(t *testing.T) {
	from := rand.New(rand.NewSource(12))
	for range 100 {
		var keys [][]byte
		for _, key := range edgeKeys() {
			keys = append(keys, slices.Repeat([][]byte{key}, from.Intn(5))...)
		}
		from.Shuffle(len(keys), func(i, j int) { keys[i], keys[j] = keys[j], keys[i] })
		filter := wantFilter(t, keys)
		for _, key := range keys {
			wantHas(t, filter, key, true)
		}
	}
}

// R2 and R6: arguments, and what is told

func TestAFilterIsTheCallersOwn(t *testing.T) {
	whole := row(21, 300)
	var keys [][]byte
	for i := range 30 {
		keys = append(keys, whole[10*i:10*i+10])
	}
	before := bytes.Clone(whole)
	first, _ := bloom.Build(keys)
	second, _ := bloom.Build(keys)
	kept := bytes.Clone(second)
	overwrite(first)
	if !bytes.Equal(whole, before) || !bytes.Equal(second, kept) {
		t.Error("a filter shares memory with a key or with another filter")
	}
	overwrite(whole)
	if !bytes.Equal(second, kept) {
		t.Error("a filter changed with the keys")
	}
	copy(whole, before)
	if third, _ := bloom.Build(keys); !bytes.Equal(third, kept) {
		t.Error("the same keys have another filter")
	}
	empty, _ := bloom.Build(nil)
	overwrite(empty)
	if again, _ := bloom.Build(nil); !bytes.Equal(again, make([]byte, 8)) {
		t.Error("filters of nothing share memory")
	}
}

func TestPlacesAreTheCallersOwn(t *testing.T) {
	key := []byte("key")
	first := bloom.Probes(key, 1001)
	second := bloom.Probes(key, 1001)
	kept := slices.Clone(second)
	first = first[:cap(first)]
	for i := range first {
		first[i] = -1
	}
	if !slices.Equal(second, kept) || !slices.Equal(bloom.Probes(key, 1001), kept) || string(key) != "key" {
		t.Error("places share memory")
	}
	overwrite(key)
	if !slices.Equal(second, kept) {
		t.Error("places changed with the key")
	}
}

func TestTheSameCallTellsTheSame(t *testing.T) {
	keys := edgeKeys()
	filter := wantFilter(t, keys)
	for range 3 {
		for _, key := range keys {
			wantHash(t, key, hashOf(key))
			wantProbes(t, key, 77, placesOf(key, 77))
			wantHas(t, filter, key, true)
			wantHas(t, filter[:8], key, hasOf(filter[:8], key))
		}
		wantFilter(t, keys)
	}
}

// FuzzFilters cuts any bytes into keys, and holds what is told of them against the plain words.
func FuzzFilters(f *testing.F) {
	f.Add([]byte("\x01a\x02ab\x00\x03abc"), []byte("a"), 64)
	f.Add([]byte("\x00\x00\x00\x00\x00\x00\x00"), []byte(nil), 1)
	f.Add([]byte("\x075qile5i\x01\xff"), []byte("5qile5i"), math.MaxInt)
	f.Add([]byte{}, []byte{0xff}, -1)
	f.Fuzz(func(t *testing.T, cut, key []byte, m int) {
		keys := [][]byte{key}
		for rest := cut; len(rest) > 0; {
			n := min(int(rest[0]%9), len(rest)-1)
			keys = append(keys, rest[1:1+n])
			rest = rest[1+n:]
		}
		filter := wantFilter(t, keys)
		for _, k := range keys {
			wantHash(t, k, hashOf(k))
			wantHas(t, filter, k, true)
			wantHas(t, cut, k, hasOf(cut, k))
		}
		if m < 1 {
			wantProbes(t, key, m, nil)
			return
		}
		wantProbes(t, key, m, placesOf(key, m))
	})
}
