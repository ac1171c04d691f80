package mem_test

import (
	"bytes"
	"cmp"
	"fmt"
	"math"
	"math/rand"
	"slices"
	"strings"
	"testing"

	"halyard/api"
	"halyard/mem"
)

const bound = 1 << 62

// row is a row of n bytes that look like nothing in particular, the same for the same seed.
func row(seed int64, n int) []byte {
	b := make([]byte, n)
	rand.New(rand.NewSource(seed)).Read(b)
	return b
}

// guarded is b with room behind its length, and a look whether all of it stayed as it was.
func guarded(b []byte) ([]byte, func(t *testing.T)) {
	whole := append(append([]byte{}, b...), bytes.Repeat([]byte{0xee}, 40)...)
	before := bytes.Clone(whole)
	return whole[:len(b)], func(t *testing.T) {
		t.Helper()
		if !bytes.Equal(whole, before) {
			t.Errorf("the argument %.40x was changed", b)
		}
	}
}

// overwrite changes each byte that the slice reaches, also those behind its length.
func overwrite(b []byte) {
	b = b[:cap(b)]
	for i := range b {
		b[i] ^= 0xff
	}
}

func overwriteAll(l []api.Entry) {
	l = l[:cap(l)]
	for i := range l {
		overwrite(l[i].Key)
		overwrite(l[i].Value)
		l[i] = api.Entry{Seq: -1, Gone: !l[i].Gone, Until: -1}
	}
}

func put(key string, seq int64, value string) api.Entry {
	return api.Entry{Key: []byte(key), Seq: seq, Value: []byte(value)}
}

func lasting(key string, seq, until int64, value string) api.Entry {
	return api.Entry{Key: []byte(key), Seq: seq, Until: until, Value: []byte(value)}
}

func away(key string, seq int64) api.Entry { return api.Entry{Key: []byte(key), Seq: seq, Gone: true} }

func copyOf(e api.Entry) api.Entry {
	e.Key, e.Value = bytes.Clone(e.Key), bytes.Clone(e.Value)
	return e
}

func alike(a, b api.Entry) bool {
	return bytes.Equal(a.Key, b.Key) && a.Seq == b.Seq && a.Gone == b.Gone && a.Until == b.Until && bytes.Equal(a.Value, b.Value)
}

// show writes entries as the document does: the key, the number, the value or Gone.
func show(l []api.Entry) string {
	var parts []string
	for _, e := range l {
		part := fmt.Sprintf("%.20q %d", e.Key, e.Seq)
		if e.Gone {
			part += " Gone"
		}
		if e.Until != 0 {
			part += fmt.Sprint(" until ", e.Until)
		}
		parts = append(parts, part+fmt.Sprintf(" %.20q", e.Value))
	}
	return strings.Join(parts, "; ")
}

// filled is a mem with the entries, in that order.
func filled(t *testing.T, l ...api.Entry) *mem.Mem {
	t.Helper()
	m := mem.New()
	for _, e := range l {
		if errno := m.Add(e); errno != api.OK {
			t.Fatalf("Add(%s) = %d", show([]api.Entry{e}), errno)
		}
	}
	return m
}

func same(t *testing.T, what string, got, want []api.Entry) {
	t.Helper()
	if !slices.EqualFunc(got, want, alike) {
		t.Errorf("%s = %.600s, want %.600s", what, show(got), show(want))
	}
}

func sameOne(t *testing.T, what string, got api.Entry, ok bool, want api.Entry, there bool) {
	t.Helper()
	if ok != there || !alike(got, want) {
		t.Errorf("%s = %s, %v, want %s, %v", what, show([]api.Entry{got}), ok, show([]api.Entry{want}), there)
	}
}

// mayBe is the document's own words of an entry that may be.
func mayBe(e api.Entry) bool {
	ordinary := len(e.Key) >= 1 && len(e.Key) <= 512 && e.Seq >= 1 && e.Seq <= bound && e.Until >= 0 && e.Until <= bound && len(e.Value) <= 2048
	if e.Gone {
		return ordinary && e.Until == 0 && len(e.Value) == 0
	}
	return ordinary
}

// plain is the document's own words over a plain row of entries, to hold the package against: each call looks at all of them.
type plain struct{ row []api.Entry }

func (p *plain) add(e api.Entry) api.Errno {
	if !mayBe(e) {
		return api.ErrArg
	}
	for _, old := range p.row {
		if bytes.Equal(old.Key, e.Key) && old.Seq == e.Seq {
			return api.ErrExists
		}
	}
	p.row = append(p.row, copyOf(e))
	return api.OK
}

func (p *plain) weight() int64 {
	sum := 0
	for _, e := range p.row {
		sum += len(e.Key) + len(e.Value) + 16
	}
	return int64(sum)
}

func (p *plain) get(key []byte, seq int64) (api.Entry, bool) {
	var best api.Entry
	found := false
	for _, e := range p.row {
		if bytes.Equal(e.Key, key) && e.Seq <= seq && (!found || e.Seq > best.Seq) {
			best, found = e, true
		}
	}
	return best, found
}

func (p *plain) list(from, to []byte) []api.Entry {
	var out []api.Entry
	for _, e := range p.row {
		if string(e.Key) >= string(from) && (len(to) == 0 || string(e.Key) < string(to)) {
			out = append(out, e)
		}
	}
	slices.SortFunc(out, func(a, b api.Entry) int {
		return cmp.Or(strings.Compare(string(a.Key), string(b.Key)), cmp.Compare(b.Seq, a.Seq))
	})
	return out
}

func (p *plain) latest(from, to []byte, seq int64) []api.Entry {
	var out []api.Entry
	for i, all := 0, p.list(from, to); i < len(all); i++ {
		if i > 0 && bytes.Equal(all[i].Key, all[i-1].Key) {
			continue
		}
		if e, ok := p.get(all[i].Key, seq); ok && !e.Gone {
			out = append(out, e)
		}
	}
	return out
}

// agree holds a mem against the plain row: what it counts, and what it tells of all pairs of the given keys and all the given numbers.
func agree(t *testing.T, m *mem.Mem, p *plain, keys [][]byte, seqs []int64) {
	t.Helper()
	if m.Len() != len(p.row) || m.Weight() != p.weight() {
		t.Errorf("Len, Weight = %d, %d, want %d, %d", m.Len(), m.Weight(), len(p.row), p.weight())
	}
	same(t, "All()", m.All(), p.list(nil, nil))
	for _, key := range keys {
		for _, seq := range seqs {
			got, ok := m.Get(key, seq)
			want, there := p.get(key, seq)
			sameOne(t, fmt.Sprintf("Get(%.20q, %d)", key, seq), got, ok, want, there)
		}
		for _, to := range keys {
			same(t, fmt.Sprintf("List(%.20q, %.20q)", key, to), m.List(key, to), p.list(key, to))
			for _, seq := range seqs {
				same(t, fmt.Sprintf("Latest(%.20q, %.20q, %d)", key, to, seq), m.Latest(key, to, seq), p.latest(key, to, seq))
			}
		}
	}
}

// beside are the keys themselves and those right ahead and behind.
func beside(keys ...string) [][]byte {
	var all [][]byte
	for _, k := range keys {
		all = append(all, []byte(k), []byte(k+"\x00"), []byte(k+"\xff"))
		if k != "" {
			all = append(all, []byte(k[:len(k)-1]))
		}
	}
	slices.SortFunc(all, bytes.Compare)
	return slices.CompactFunc(all, bytes.Equal)
}

// nested are keys that are beginnings of one another, with 0 and ff.
var nested = []string{"\x00", "\x00\x00", "\x00\xff", "a", "a\x00", "a\x00\x00", "a\x00b", "a\xff", "ab", "abc", "b", "\xff", "\xff\x00", "\xff\xff"}

var manySeqs = []int64{math.MinInt64, -1, 0, 1, 2, 3, 4, 5, 6, 7, 8, 9, 100, bound - 1, bound, bound + 1, math.MaxInt64}

// P9.1

func TestNewHasNothing(t *testing.T) {
	m := mem.New()
	agree(t, m, &plain{}, beside("", "a", "\xff"), manySeqs)
	if m == mem.New() {
		t.Error("two mems are one")
	}
}

// edges are entries of which each has one thing at an edge or past it, and whether it may be.
func edges() []struct {
	what string
	e    api.Entry
	may  bool
} {
	type edge = struct {
		what string
		e    api.Entry
		may  bool
	}
	key := func(n int) string { return string(row(1, n)) }
	value := func(n int) string { return string(row(2, n)) }
	all := []edge{
		{"nothing at all", api.Entry{}, false},
		{"nil key", api.Entry{Seq: 1}, false},
		{"key of no byte", put("", 1, "x"), false},
		{"key of one byte", put("k", 1, "x"), true},
		{"key 0", put("\x00", 1, "x"), true},
		{"key ff", put("\xff", 1, "x"), true},
		{"key of 511", put(key(511), 1, ""), true},
		{"key of 512", put(key(512), 1, ""), true},
		{"key of 513", put(key(513), 1, ""), false},
		{"key of 100000", put(key(100000), 1, ""), false},
		{"gone, key of no byte", away("", 1), false},
		{"gone, key of 512", away(key(512), 1), true},
		{"gone, key of 513", away(key(513), 1), false},
		{"value nil", api.Entry{Key: []byte("k"), Seq: 1}, true},
		{"value of none", api.Entry{Key: []byte("k"), Seq: 1, Value: []byte{}}, true},
		{"value of 2047", put("k", 1, value(2047)), true},
		{"value of 2048", put("k", 1, value(2048)), true},
		{"value of 2049", put("k", 1, value(2049)), false},
		{"value of 100000", put("k", 1, value(100000)), false},
		{"gone, value nil", away("k", 1), true},
		{"gone, value of none", api.Entry{Key: []byte("k"), Seq: 1, Gone: true, Value: []byte{}}, true},
		{"gone, value of one", api.Entry{Key: []byte("k"), Seq: 1, Gone: true, Value: []byte{0}}, false},
		{"gone, until 1", api.Entry{Key: []byte("k"), Seq: 1, Gone: true, Until: 1}, false},
		{"gone, until 2^62", api.Entry{Key: []byte("k"), Seq: 1, Gone: true, Until: bound}, false},
		{"gone, until -1", api.Entry{Key: []byte("k"), Seq: 1, Gone: true, Until: -1}, false},
		{"gone, until and value", api.Entry{Key: []byte("k"), Seq: 1, Gone: true, Until: 7, Value: []byte("v")}, false},
		{"all at their most", lasting(key(512), bound, bound, value(2048)), true},
	}
	for _, n := range []struct {
		n   int64
		may bool
	}{{math.MinInt64, false}, {-bound, false}, {-1, false}, {1, true}, {2, true}, {bound - 1, true}, {bound, true}, {bound + 1, false}, {math.MaxInt64, false}} {
		all = append(all,
			edge{fmt.Sprint("seq ", n.n), put("k", n.n, "v"), n.may},
			edge{fmt.Sprint("gone, seq ", n.n), away("k", n.n), n.may},
			edge{fmt.Sprint("until ", n.n), lasting("k", 1, n.n, "v"), n.may})
	}
	return append(all,
		edge{"seq 0", put("k", 0, "v"), false},
		edge{"gone, seq 0", away("k", 0), false},
		edge{"until 0", lasting("k", 1, 0, "v"), true})
}

func TestMay(t *testing.T) {
	for _, c := range edges() {
		if mem.May(c.e) != c.may || mayBe(c.e) != c.may {
			t.Errorf("%s: May = %v, want %v", c.what, mem.May(c.e), c.may)
		}
	}
}

func TestAddOfWhatMayBeAndMayNot(t *testing.T) {
	for _, c := range edges() {
		old := []api.Entry{put("j", 3, "old"), put("l", 3, "old")}
		m, p := filled(t, old...), &plain{old}
		want := p.add(c.e)
		if (want == api.OK) != c.may {
			t.Fatalf("%s: the test's own row says %d", c.what, want)
		}
		if got := m.Add(c.e); got != want {
			t.Errorf("%s: Add = %d, want %d", c.what, got, want)
		}
		agree(t, m, p, [][]byte{nil, []byte("j"), []byte("k"), c.e.Key}, []int64{0, 1, 3, bound, math.MaxInt64})
	}
}

func TestAddOfTheSameKeyAndSeq(t *testing.T) {
	there := []api.Entry{lasting("k", 5, 9, "v"), away("k", 7), put("l", 5, "")}
	for _, e := range []api.Entry{
		lasting("k", 5, 9, "v"), put("k", 5, "v"), lasting("k", 5, 9, "w"), lasting("k", 5, 8, "v"), put("k", 5, ""), away("k", 5),
		away("k", 7), put("k", 7, "v"), put("l", 5, "longer"), away("l", 5),
	} {
		m := filled(t, there...)
		for range 3 {
			if got := m.Add(e); got != api.ErrExists {
				t.Errorf("Add(%s) = %d, want ErrExists", show([]api.Entry{e}), got)
			}
		}
		agree(t, m, &plain{there}, beside("k", "l"), manySeqs)
	}
}

func TestAddTellsErrArgAheadOfErrExists(t *testing.T) {
	there := put("k", 5, "v")
	m := filled(t, there)
	for _, e := range []api.Entry{
		lasting("k", 5, -1, "v"), lasting("k", 5, bound+1, "v"), put("k", 5, strings.Repeat("v", 2049)),
		{Key: []byte("k"), Seq: 5, Gone: true, Until: 1}, {Key: []byte("k"), Seq: 5, Gone: true, Value: []byte("v")},
	} {
		if got := m.Add(e); got != api.ErrArg {
			t.Errorf("Add(%s) = %d, want ErrArg", show([]api.Entry{e}), got)
		}
	}
	agree(t, m, &plain{[]api.Entry{there}}, beside("k"), manySeqs)
}

func TestARefusedEntryLeavesNoKey(t *testing.T) {
	m := mem.New()
	m.Add(put("k", 0, "v"))
	if got := m.Add(put("k", 1, "w")); got != api.OK {
		t.Errorf("Add = %d", got)
	}
	agree(t, m, &plain{[]api.Entry{put("k", 1, "w")}}, beside("k"), manySeqs)
}

func TestLenAndWeight(t *testing.T) {
	m := mem.New()
	weight := int64(0)
	for i, c := range []struct {
		e api.Entry
		w int64
	}{
		{put("a", 1, ""), 17}, {put("a", 2, "xyz"), 20}, {away("a", 3), 17}, {put("abc", 3, "x"), 20},
		{lasting("a", 4, bound, "x"), 18}, {put(strings.Repeat("k", 512), bound, strings.Repeat("v", 2048)), 2576},
	} {
		if errno := m.Add(c.e); errno != api.OK {
			t.Fatal(errno)
		}
		weight += c.w
		if m.Len() != i+1 || m.Weight() != weight {
			t.Errorf("behind %s: Len, Weight = %d, %d, want %d, %d", show([]api.Entry{c.e}), m.Len(), m.Weight(), i+1, weight)
		}
	}
}

// P9.2

func TestExample(t *testing.T) {
	m := filled(t, put("a", 5, "x"), away("a", 7))
	e, ok := m.Get([]byte("a"), 6)
	sameOne(t, "Get(a, 6)", e, ok, put("a", 5, "x"), true)
	e, ok = m.Get([]byte("a"), 9)
	sameOne(t, "Get(a, 9)", e, ok, away("a", 7), true)
	same(t, "Latest(6)", m.Latest(nil, nil, 6), []api.Entry{put("a", 5, "x")})
}

func TestGetBesideTheNumbersOfAKey(t *testing.T) {
	m := filled(t, put("a", 30, "three"), lasting("a", 10, 77, "one"), away("a", 20), put("a\x00", 5, "other"), put("A", 25, "other"), put("b", 15, "other"))
	for _, c := range []struct {
		key  string
		seq  int64
		want api.Entry
		ok   bool
	}{
		{"a", math.MinInt64, api.Entry{}, false}, {"a", -1, api.Entry{}, false}, {"a", 0, api.Entry{}, false}, {"a", 9, api.Entry{}, false},
		{"a", 10, lasting("a", 10, 77, "one"), true}, {"a", 11, lasting("a", 10, 77, "one"), true}, {"a", 19, lasting("a", 10, 77, "one"), true},
		{"a", 20, away("a", 20), true}, {"a", 29, away("a", 20), true},
		{"a", 30, put("a", 30, "three"), true}, {"a", bound, put("a", 30, "three"), true}, {"a", math.MaxInt64, put("a", 30, "three"), true},
		{"", 30, api.Entry{}, false}, {"aa", 30, api.Entry{}, false}, {"a\x00\x00", 30, api.Entry{}, false}, {"@", 30, api.Entry{}, false}, {"c", 30, api.Entry{}, false},
		{"a\x00", 4, api.Entry{}, false}, {"a\x00", 5, put("a\x00", 5, "other"), true}, {"b", 14, api.Entry{}, false}, {"b", 15, put("b", 15, "other"), true},
		{strings.Repeat("a", 513), 30, api.Entry{}, false},
	} {
		e, ok := m.Get([]byte(c.key), c.seq)
		sameOne(t, fmt.Sprintf("Get(%.20q, %d)", c.key, c.seq), e, ok, c.want, c.ok)
	}
	if e, ok := m.Get(nil, 30); ok || !alike(e, api.Entry{}) {
		t.Error("Get(nil) tells something")
	}
}

func TestGetTellsAllFields(t *testing.T) {
	for _, e := range []api.Entry{lasting("k", bound, bound, "v"), lasting("k", 1, 1, ""), away("k", bound), put("k", 1, string(row(3, 2048)))} {
		m := filled(t, e)
		got, ok := m.Get([]byte("k"), bound)
		sameOne(t, "Get", got, ok, e, true)
		same(t, "All", m.All(), []api.Entry{e})
	}
}

// P9.3

func TestListFromAndTo(t *testing.T) {
	m := filled(t, put("b", 2, "x"), put("d", 1, "y"), away("b", 9), put("c", 5, "z"), lasting("d", 3, 4, "w"))
	b, c, d := []api.Entry{away("b", 9), put("b", 2, "x")}, []api.Entry{put("c", 5, "z")}, []api.Entry{lasting("d", 3, 4, "w"), put("d", 1, "y")}
	for _, x := range []struct {
		from, to string
		want     []api.Entry
	}{
		{"", "", slices.Concat(b, c, d)}, {"a", "", slices.Concat(b, c, d)}, {"b", "", slices.Concat(b, c, d)}, {"b\x00", "", slices.Concat(c, d)},
		{"c", "", slices.Concat(c, d)}, {"d", "", d}, {"d\x00", "", nil}, {"e", "", nil}, {"\xff", "", nil},
		{"", "b", nil}, {"", "b\x00", b}, {"", "c", b}, {"", "d", slices.Concat(b, c)}, {"", "d\x00", slices.Concat(b, c, d)}, {"", "\xff", slices.Concat(b, c, d)}, {"", "\x00", nil},
		{"b", "b", nil}, {"c", "c", nil}, {"b", "b\x00", b}, {"b", "c", b}, {"b\x00", "c", nil}, {"b", "d", slices.Concat(b, c)},
		{"c", "b", nil}, {"d", "b", nil}, {"e", "a", nil}, {"d\x00", "d", nil}, {"b\x00", "b", nil},
	} {
		same(t, fmt.Sprintf("List(%q, %q)", x.from, x.to), m.List([]byte(x.from), []byte(x.to)), x.want)
	}
	same(t, "List(nil, nil)", m.List(nil, nil), slices.Concat(b, c, d))
	same(t, "All()", m.All(), slices.Concat(b, c, d))
}

func TestNestedKeysStandInOrder(t *testing.T) {
	var p plain
	m := mem.New()
	for i, k := range nested {
		for _, e := range []api.Entry{put(k, int64(3+i%4), k), away(k, int64(7+i%3)), lasting(k, int64(1+i%2), 5, "")} {
			if m.Add(e) != api.OK || p.add(e) != api.OK {
				t.Fatal(show([]api.Entry{e}))
			}
		}
	}
	agree(t, m, &p, beside(nested...), manySeqs)
}

func TestLongestKeysThatDifferAtTheEnd(t *testing.T) {
	long := strings.Repeat("k", 511)
	var p plain
	m := mem.New()
	for i, k := range []string{long + "b", long, long + "a", long + "\xff", long[:510], long + "\x00"} {
		e := put(k, int64(i+1), "v")
		if m.Add(e) != api.OK || p.add(e) != api.OK {
			t.Fatal(i)
		}
	}
	agree(t, m, &p, beside(long, long+"a", long+"b", long+"\xff"), []int64{0, 1, 3, 6})
}

// P9.4

func TestLatestAtANumber(t *testing.T) {
	m := filled(t, put("a", 2, "old"), away("a", 6), put("a", 8, "new"), put("b", 3, "x"), away("b", 5), away("c", 1), lasting("d", 7, 9, "y"))
	a2, a8, b3, d7 := put("a", 2, "old"), put("a", 8, "new"), put("b", 3, "x"), lasting("d", 7, 9, "y")
	for _, x := range []struct {
		from, to string
		seq      int64
		want     []api.Entry
	}{
		{"", "", math.MinInt64, nil}, {"", "", -1, nil}, {"", "", 0, nil}, {"", "", 1, nil}, {"", "", 2, []api.Entry{a2}},
		{"", "", 3, []api.Entry{a2, b3}}, {"", "", 4, []api.Entry{a2, b3}}, {"", "", 5, []api.Entry{a2}}, {"", "", 6, nil},
		{"", "", 7, []api.Entry{d7}}, {"", "", 8, []api.Entry{a8, d7}}, {"", "", math.MaxInt64, []api.Entry{a8, d7}},
		{"a", "b", 4, []api.Entry{a2}}, {"a\x00", "", 4, []api.Entry{b3}}, {"b", "", 4, []api.Entry{b3}}, {"b", "b\x00", 4, []api.Entry{b3}},
		{"", "b", 4, []api.Entry{a2}}, {"", "a", 4, nil}, {"b", "b", 4, nil}, {"c", "a", 4, nil}, {"b\x00", "c", 4, nil}, {"c", "", 9, []api.Entry{d7}}, {"d\x00", "", 9, nil},
	} {
		same(t, fmt.Sprintf("Latest(%q, %q, %d)", x.from, x.to, x.seq), m.Latest([]byte(x.from), []byte(x.to), x.seq), x.want)
	}
	same(t, "Latest(nil, nil, 8)", m.Latest(nil, nil, 8), []api.Entry{a8, d7})
}

// A nil mem

func TestNilMem(t *testing.T) {
	var m *mem.Mem
	for _, c := range edges() {
		if got := m.Add(c.e); got != api.ErrArg {
			t.Errorf("%s: Add on nil = %d", c.what, got)
		}
	}
	if m.Len() != 0 || m.Weight() != 0 {
		t.Error("a nil mem counts something")
	}
	for _, k := range [][]byte{nil, []byte("a")} {
		if e, ok := m.Get(k, bound); ok || !alike(e, api.Entry{}) {
			t.Error("a nil mem tells an entry")
		}
		if len(m.List(nil, k)) != 0 || len(m.List(k, nil)) != 0 || len(m.Latest(nil, k, bound)) != 0 || len(m.Latest(k, nil, bound)) != 0 || len(m.All()) != 0 {
			t.Error("a nil mem lists something")
		}
	}
}

func TestZeroMemIsANewOne(t *testing.T) {
	var m mem.Mem
	agree(t, &m, &plain{}, beside("a"), manySeqs)
	if m.Add(put("a", 1, "x")) != api.OK {
		t.Error("Add")
	}
	agree(t, &m, &plain{[]api.Entry{put("a", 1, "x")}}, beside("a"), manySeqs)
}

// P9.5

// mixed are n entries of about as many keys as said, none twice, in no order.
func mixed(seed int64, n, keys int) []api.Entry {
	r := rand.New(rand.NewSource(seed))
	var p plain
	for len(p.row) < n {
		key := fmt.Sprint("key", r.Intn(keys))
		e := lasting(key, 1+r.Int63n(int64(4*n)), r.Int63n(3)*r.Int63n(99), strings.Repeat("v", r.Intn(5)))
		if r.Intn(3) == 0 {
			e = away(key, e.Seq)
		}
		p.add(e)
	}
	return p.row
}

func orders(l []api.Entry) [][]api.Entry {
	forth := (&plain{l}).list(nil, nil)
	back := slices.Clone(forth)
	slices.Reverse(back)
	bySeq := slices.Clone(forth)
	slices.SortFunc(bySeq, func(a, b api.Entry) int { return cmp.Compare(a.Seq, b.Seq) })
	all := [][]api.Entry{l, forth, back, bySeq}
	for seed := range int64(5) {
		other := slices.Clone(l)
		rand.New(rand.NewSource(seed)).Shuffle(len(other), func(i, j int) { other[i], other[j] = other[j], other[i] })
		all = append(all, other)
	}
	return all
}

func TestOrderOfAddingMakesNoDifference(t *testing.T) {
	for _, keys := range []int{1, 2, 10, 60, 1000} {
		l := mixed(int64(keys), 60, keys)
		for _, o := range orders(l) {
			agree(t, filled(t, o...), &plain{l}, beside("", "key1", "key5", "key"), []int64{0, 30, 100, 239, 240, bound})
		}
	}
}

func TestAllOrdersOfAFew(t *testing.T) {
	l := []api.Entry{put("a", 1, "x"), away("a", 2), put("a\x00", 2, "y"), lasting("b", 1, 4, "z"), put("a", 3, "w")}
	var permute func(left, taken []api.Entry)
	permute = func(left, taken []api.Entry) {
		if len(left) == 0 {
			agree(t, filled(t, taken...), &plain{l}, beside("a", "b"), []int64{0, 1, 2, 3, 4})
		}
		for i := range left {
			permute(slices.Delete(slices.Clone(left), i, i+1), append(slices.Clone(taken), left[i]))
		}
	}
	permute(l, nil)
}

func TestGetIsTheFirstOfList(t *testing.T) {
	l := mixed(77, 200, 12)
	m := filled(t, l...)
	for k := range 13 {
		key := []byte(fmt.Sprint("key", k))
		all := m.List(key, append(bytes.Clone(key), 0))
		for seq := range int64(810) {
			var want api.Entry
			i := slices.IndexFunc(all, func(e api.Entry) bool { return e.Seq <= seq })
			if i >= 0 {
				want = all[i]
			}
			got, ok := m.Get(key, seq)
			sameOne(t, fmt.Sprintf("Get(%s, %d)", key, seq), got, ok, want, i >= 0)
		}
	}
}

// Also the steps that are refused are held against the plain row.
func TestStepByStepAgainstAPlainRow(t *testing.T) {
	r := rand.New(rand.NewSource(5))
	keys := append(beside("", "a", "ab", "b\xff"), row(8, 512), row(8, 513))
	for range 40 {
		m, p := mem.New(), &plain{}
		for range 40 {
			e := lasting(string(keys[r.Intn(len(keys))]), r.Int63n(9), r.Int63n(4)-1, strings.Repeat("v", r.Intn(3)))
			e.Gone = r.Intn(3) == 0
			if e.Gone && r.Intn(4) > 0 {
				e = away(string(e.Key), e.Seq)
			}
			if got, want := m.Add(e), p.add(e); got != want {
				t.Fatalf("Add(%s) = %d, want %d", show([]api.Entry{e}), got, want)
			}
		}
		agree(t, m, p, keys, []int64{-1, 0, 3, 8, 9})
	}
}

func keyFamilies() map[string]func(i int) string {
	return map[string]func(i int) string{
		"decimals":  func(i int) string { return fmt.Sprint(i) },
		"at length": func(i int) string { return fmt.Sprintf("%08d", i) },
		"bytes":     func(i int) string { return string([]byte{byte(i >> 16), byte(i >> 8), byte(i)}) },
		"turned":    func(i int) string { return string([]byte{byte(i), byte(i >> 8), byte(i >> 16)}) },
		"topics":    func(i int) string { return fmt.Sprintf("house/room%d/lamp%d", i/100, i%100) },
		"any":       func(i int) string { return string(row(int64(i), 1+i%16)) + fmt.Sprint(i) },
	}
}

func TestManyKeysAgainstAPlainRow(t *testing.T) {
	const n = 20000
	for name, key := range keyFamilies() {
		var p plain
		m := mem.New()
		for _, i := range rand.New(rand.NewSource(9)).Perm(n) {
			e := put(key(i), int64(i+1), fmt.Sprint(i))
			p.row = append(p.row, e)
			if errno := m.Add(e); errno != api.OK {
				t.Fatal(name, i, errno)
			}
		}
		same(t, name, m.All(), p.list(nil, nil))
		if m.Len() != n || m.Weight() != p.weight() {
			t.Errorf("%s: Len, Weight = %d, %d", name, m.Len(), m.Weight())
		}
		for i := range n {
			if e, ok := m.Get([]byte(key(i)), bound); !ok || e.Seq != int64(i+1) {
				t.Fatalf("%s: Get(%q) = %d, %v", name, key(i), e.Seq, ok)
			}
		}
	}
}

func TestManyNumbersOfOneKey(t *testing.T) {
	const n = 20000
	up := func(i int) int64 { return int64(2*i + 2) }
	down := func(i int) int64 { return int64(2*n - 2*i) }
	order := rand.New(rand.NewSource(3)).Perm(n)
	for name, seq := range map[string]func(i int) int64{"rising": up, "falling": down, "mixed": func(i int) int64 { return up(order[i]) }} {
		m := mem.New()
		for i := range n {
			if errno := m.Add(put("k", seq(i), fmt.Sprint(seq(i)))); errno != api.OK {
				t.Fatal(name, i, errno)
			}
		}
		for i, e := range m.All() {
			if e.Seq != int64(2*n-2*i) || string(e.Value) != fmt.Sprint(e.Seq) {
				t.Fatalf("%s: at place %d stands %s", name, i, show([]api.Entry{e}))
			}
		}
		for s := int64(2); s <= 2*n+1; s++ {
			if e, ok := m.Get([]byte("k"), s); !ok || e.Seq != s-s%2 {
				t.Fatalf("%s: Get(k, %d) = %d, %v", name, s, e.Seq, ok)
			}
		}
		if l := m.Latest(nil, nil, 7); len(l) != 1 || l[0].Seq != 6 {
			t.Errorf("%s: Latest(7) = %s", name, show(l))
		}
		if m.Add(put("k", 2*n, "")) != api.ErrExists || m.Len() != n {
			t.Errorf("%s: the last one twice", name)
		}
	}
}

// R2

func TestArgumentsStayAsTheyAre(t *testing.T) {
	m := filled(t, put("a", 1, "x"), put("b", 2, "y"))
	key, keyStays := guarded([]byte("ab"))
	value, valueStays := guarded([]byte("value"))
	to, toStays := guarded([]byte("b\x00"))
	if m.Add(api.Entry{Key: key, Seq: 3, Value: value}) != api.OK || m.Add(api.Entry{Key: key, Seq: 3, Value: value}) != api.ErrExists || m.Add(api.Entry{Key: key, Seq: 0, Value: value}) != api.ErrArg {
		t.Error("Add")
	}
	mem.May(api.Entry{Key: key, Seq: 3, Value: value})
	m.Get(key, 9)
	m.List(key, to)
	m.Latest(key, to, 9)
	for _, stays := range []func(*testing.T){keyStays, valueStays, toStays} {
		stays(t)
	}
	same(t, "All()", m.All(), []api.Entry{put("a", 1, "x"), put("ab", 3, "value"), put("b", 2, "y")})
}

func TestWhatWasHandedInIsNotKept(t *testing.T) {
	m := mem.New()
	key, value := []byte("key"), []byte("value")
	for seq := range int64(3) {
		if m.Add(api.Entry{Key: key, Seq: seq + 1, Value: value}) != api.OK {
			t.Error(seq)
		}
	}
	overwrite(key)
	overwrite(value)
	same(t, "All()", m.All(), []api.Entry{put("key", 3, "value"), put("key", 2, "value"), put("key", 1, "value")})

	from, to := []byte("key"), []byte("l")
	l := m.List(from, to)
	latest := m.Latest(from, to, 2)
	e, ok := m.Get(from, 1)
	overwrite(from)
	overwrite(to)
	same(t, "List", l, []api.Entry{put("key", 3, "value"), put("key", 2, "value"), put("key", 1, "value")})
	same(t, "Latest", latest, []api.Entry{put("key", 2, "value")})
	sameOne(t, "Get", e, ok, put("key", 1, "value"), true)
}

func TestWhatIsToldIsTheCallersOwn(t *testing.T) {
	want := []api.Entry{put("k", 3, "three"), lasting("k", 2, 9, "two"), away("k", 1), put("l", 2, "")}
	m := filled(t, want...)
	answers := func() [][]api.Entry {
		one, _ := m.Get([]byte("k"), 3)
		other, _ := m.Get([]byte("l"), 3)
		return [][]api.Entry{m.All(), m.List(nil, nil), m.List([]byte("k"), []byte("l")), m.Latest(nil, nil, 3), m.Latest(nil, nil, 2), {one}, {other}}
	}
	before := answers()
	for i := range before {
		told := answers()
		overwriteAll(told[i])
		for j, l := range told {
			if j != i {
				same(t, fmt.Sprint("answer ", j, " behind a change of ", i), l, before[j])
			}
		}
		agree(t, m, &plain{want}, beside("k", "l"), []int64{0, 1, 2, 3})
	}
}

// Of one answer, no entry's key or value may reach into another's, not even behind its length.
func TestPartsOfOneAnswerShareNothing(t *testing.T) {
	m := filled(t, put("k", 3, "three"), put("k", 2, "two"), put("k", 1, "one"), put("l", 2, "two"), put("m", 2, "other"))
	for what, ask := range map[string]func() []api.Entry{
		"All":    m.All,
		"List":   func() []api.Entry { return m.List([]byte("k"), []byte("m")) },
		"Latest": func() []api.Entry { return m.Latest(nil, nil, 9) },
	} {
		want := ask()
		for i := range want {
			for _, part := range []func(e api.Entry) []byte{func(e api.Entry) []byte { return e.Key }, func(e api.Entry) []byte { return e.Value }} {
				got := ask()
				overwrite(part(got[i]))
				copy(part(got[i]), part(want[i]))
				same(t, fmt.Sprint(what, " behind a change of ", i), got, want)
				overwrite(part(got[i]))
				got[i] = want[i]
				same(t, fmt.Sprint(what, " beside a change of ", i), got, want)
			}
		}
	}
}

func TestMemsKeepToThemselves(t *testing.T) {
	a, b := filled(t, put("k", 1, "a")), filled(t, put("k", 1, "b"))
	if a.Add(put("l", 1, "")) != api.OK || b.Add(put("j", 1, "")) != api.OK {
		t.Error("Add")
	}
	same(t, "a", a.All(), []api.Entry{put("k", 1, "a"), put("l", 1, "")})
	same(t, "b", b.All(), []api.Entry{put("j", 1, ""), put("k", 1, "b")})
}

func TestTheSameCallTellsTheSame(t *testing.T) {
	m := filled(t, mixed(4, 50, 9)...)
	p := &plain{m.All()}
	for range 3 {
		agree(t, m, p, beside("key1", "key4"), []int64{0, 50, 199})
	}
}

// FuzzSteps reads steps out of any bytes, and holds the mem against the plain row.
func FuzzSteps(f *testing.F) {
	f.Add([]byte("\x01a\x05\x00x\x01a\x07\x80"), []byte("a"), []byte("b"), int64(6))
	f.Add([]byte("\x00\x02ab\x00\x01\x00"), []byte(""), []byte("\xff"), int64(-1))
	f.Fuzz(func(t *testing.T, steps, from, to []byte, seq int64) {
		m, p := mem.New(), &plain{}
		for len(steps) > 3 && len(p.row) < 200 {
			n := min(int(steps[0]%4), len(steps)-3)
			e := api.Entry{Key: steps[1 : 1+n], Seq: int64(steps[1+n] % 16)}
			kind := steps[2+n]
			e.Gone, e.Until = kind >= 0x80, int64(kind>>4)&3
			e.Value = bytes.Repeat([]byte{kind}, int(kind&3))
			if got, want := m.Add(e), p.add(e); got != want {
				t.Fatalf("Add(%s) = %d, want %d", show([]api.Entry{e}), got, want)
			}
			steps = steps[3+n:]
		}
		agree(t, m, p, [][]byte{nil, from, to, []byte("a")}, []int64{seq, 0, 5, 16})
	})
}
