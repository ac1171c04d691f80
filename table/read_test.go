package table_test

import (
	"bytes"
	"math"
	"math/rand"
	"slices"
	"strings"
	"testing"

	"halyard/api"
	"halyard/bloom"
	"halyard/mem"
	"halyard/table"
)

// keysAbout are the entries' keys, and others ahead of them, between them and behind them; and no key.
func keysAbout(l []api.Entry) [][]byte {
	all := [][]byte{nil, {}, {0}, {0, 0}, []byte("M"), {0xff}, bytes.Repeat([]byte{0xff}, 513), []byte(longKey('y'))}
	var ahead []byte
	for _, e := range l {
		if bytes.Equal(e.Key, ahead) {
			continue
		}
		ahead = e.Key
		end := len(e.Key) - 1
		all = append(all, e.Key, e.Key[:end], join(e.Key, []byte{0}), join(e.Key[:end], []byte{e.Key[end] - 1}), join(e.Key[:end], []byte{e.Key[end] + 1}))
	}
	return all
}

// seqsAbout are the entries' numbers, those beside them, and the ends of all.
func seqsAbout(l []api.Entry) []int64 {
	all := []int64{math.MinInt64, -1, 0, 1, bound, bound + 1, math.MaxInt64}
	for _, e := range l {
		all = append(all, e.Seq-1, e.Seq, e.Seq+1)
	}
	slices.Sort(all)
	return slices.Compact(all)
}

func wantGet(t *testing.T, x *table.Table, m *mem.Mem, key []byte, seq int64) {
	t.Helper()
	want, there := m.Get(key, seq)
	got, found := x.Get(key, seq)
	if found != there || !sameEntry(got, want) {
		t.Errorf("Get(%.20q, %d) = %s, %v, not %s, %v", key, seq, show(of(got)), found, show(of(want)), there)
	}
}

func wantList(t *testing.T, x *table.Table, m *mem.Mem, from, to []byte) {
	t.Helper()
	want := m.List(from, to)
	if got := x.List(from, to); !same(got, want) {
		t.Errorf("List(%.20q, %.20q) = %s, not %s", from, to, show(got), show(want))
	}
}

// P12.3: the chapter's example.
func TestExample(t *testing.T) {
	x := tableOf(t, example())
	e, found := x.Get([]byte("a"), 9)
	if string(x.Least()) != "a" || string(x.Most()) != "a" || !found || !sameEntry(e, put("a", 1, 0, "x")) {
		t.Errorf("%q, %q, %s, %v", x.Least(), x.Most(), show(of(e)), found)
	}
	if x.Len() != 1 || !x.May([]byte("a")) || !same(x.All(), example()) || !same(x.List([]byte("a"), nil), example()) {
		t.Errorf("%d, %v, %s", x.Len(), x.May([]byte("a")), show(x.All()))
	}
	for _, none := range []struct {
		key string
		seq int64
	}{{"a", 0}, {"a", -1}, {"", 9}, {"b", 9}, {"aa", 9}, {"A", 9}} {
		if e, found := x.Get([]byte(none.key), none.seq); found || !zero(e) {
			t.Errorf("Get(%q, %d) = %s, %v", none.key, none.seq, show(of(e)), found)
		}
	}
}

// P12.3: one key with numbers in three blocks, told by hand.
func TestKeyAcrossBlocks(t *testing.T) {
	l := of(
		weighing("a", 5, 100), weighing("k", 90, 200), // a block
		weighing("k", 80, 128), away("k", 70), weighing("k", 60, 128), // another
		weighing("k", 50, 256), // one more
		away("k", 40), put("m", 9, 3, "y"),
	)
	if n := len(cuts(l)); n != 4 {
		t.Fatal(n, "blocks")
	}
	x := tableOf(t, l)
	for _, c := range []struct{ seq, want int64 }{
		{math.MaxInt64, 90}, {91, 90}, {90, 90}, {89, 80}, {81, 80}, {80, 80}, {79, 70}, {70, 70}, {69, 60}, {60, 60}, {59, 50}, {50, 50}, {49, 40}, {40, 40},
	} {
		e, found := x.Get([]byte("k"), c.seq)
		if !found || string(e.Key) != "k" || e.Seq != c.want || e.Gone != (c.want == 70 || c.want == 40) {
			t.Errorf("Get(k, %d) = %s, %v, not %d", c.seq, show(of(e)), found, c.want)
		}
	}
	for _, seq := range []int64{39, 1, 0, -1, math.MinInt64} {
		if e, found := x.Get([]byte("k"), seq); found || !zero(e) {
			t.Errorf("Get(k, %d) = %s, %v", seq, show(of(e)), found)
		}
	}
	for _, c := range []struct {
		from, to   string
		begin, end int
	}{
		{"", "", 0, 8}, {"k", "", 1, 8}, {"k", "m", 1, 7}, {"k", "k", 0, 0}, {"a", "k", 0, 1}, {"b", "l", 1, 7}, {"l", "", 7, 8}, {"", "k\x00", 0, 7},
		{"k\x00", "", 7, 8}, {"n", "", 0, 0}, {"m", "k", 0, 0}, {"m", "a", 0, 0}, {"", "a", 0, 0}, {"m", "n", 7, 8},
	} {
		if got := x.List([]byte(c.from), []byte(c.to)); !same(got, l[c.begin:c.end]) {
			t.Errorf("List(%q, %q) = %s, not %s", c.from, c.to, show(got), show(l[c.begin:c.end]))
		}
	}
}

// P12.3, P12.4: of each list of entries, what it has.
func TestOpenOfBuild(t *testing.T) {
	for _, l := range good() {
		x := tableOf(t, l)
		if x.Len() != len(l) {
			t.Errorf("%s: Len %d", show(l), x.Len())
		}
		if !bytes.Equal(x.Least(), l[0].Key) || !bytes.Equal(x.Most(), l[len(l)-1].Key) {
			t.Errorf("%s: from %.20q to %.20q", show(l), x.Least(), x.Most())
		}
		if !same(x.All(), l) || !same(x.List(nil, nil), l) || !same(x.List([]byte{}, []byte{}), l) {
			t.Errorf("%s: All is %s", show(l), show(x.All()))
		}
		for _, e := range l {
			got, found := x.Get(e.Key, e.Seq)
			if !found || !sameEntry(got, e) || !x.May(e.Key) {
				t.Fatalf("Get(%.20q, %d) = %s, %v; May %v", e.Key, e.Seq, show(of(got)), found, x.May(e.Key))
			}
		}
	}
}

// P12.3, P12.4: Get of each key and number of a table, and of those about them, is that of a mem.
func TestGetIsMems(t *testing.T) {
	for _, l := range small() {
		x, m := tableOf(t, l), memOf(t, l)
		seqs := seqsAbout(l)
		for _, key := range keysAbout(l) {
			for _, seq := range seqs {
				wantGet(t, x, m, key, seq)
			}
		}
	}
}

// P12.3, P12.4: List with each pair of bounds is that of a mem.
func TestListIsMems(t *testing.T) {
	for _, l := range small() {
		x, m := tableOf(t, l), memOf(t, l)
		keys := keysAbout(l)
		for _, from := range keys {
			for _, to := range keys {
				wantList(t, x, m, from, to)
			}
		}
		if !same(x.All(), m.All()) || x.Len() != m.Len() {
			t.Errorf("All of %s is %s", show(l), show(x.All()))
		}
	}
}

// P12.4: entries by chance, held against a mem.
func TestAsAMem(t *testing.T) {
	random := rand.New(rand.NewSource(4))
	for range 300 {
		m := mem.New()
		for range 1 + random.Intn(150) {
			e := put(strings.Repeat("ab", random.Intn(3))+string(rune('a'+random.Intn(4))), int64(1+random.Intn(60)), int64(random.Intn(3)), strings.Repeat("v", random.Intn(40)))
			if random.Intn(4) == 0 {
				e = away(string(e.Key), e.Seq)
			}
			m.Add(e)
		}
		l := m.All()
		x := tableOf(t, l)
		if !same(x.All(), l) || x.Len() != len(l) {
			t.Fatalf("All is %s, not %s", show(x.All()), show(l))
		}
		for range 60 {
			e, f := l[random.Intn(len(l))], l[random.Intn(len(l))]
			wantGet(t, x, m, e.Key, int64(random.Intn(62)))
			wantGet(t, x, m, append(bytes.Clone(e.Key), 'a'), int64(random.Intn(62)))
			wantList(t, x, m, e.Key, f.Key)
		}
	}
}

// P12.3: May is bloom.Has of the filter.
func TestMay(t *testing.T) {
	for _, l := range small() {
		x := tableOf(t, l)
		filter := draftOf(cuts(l)...).filter
		no := 0
		for i := range 200 {
			key := row(int64(i), 1+i%20)
			if x.May(key) != bloom.Has(filter, key) {
				t.Errorf("%s: May(%x) = %v", show(l), key, x.May(key))
			}
			if !x.May(key) {
				no++
			}
		}
		if no == 0 {
			t.Errorf("%s: every key may be there", show(l))
		}
		for _, key := range keysAbout(l) {
			if x.May(key) != bloom.Has(filter, key) {
				t.Errorf("%s: May(%.20q) = %v", show(l), key, x.May(key))
			}
		}
	}
}

// P12.3: a nil table; one that was not opened does not panic either.
func TestNilTable(t *testing.T) {
	var none *table.Table
	for _, key := range [][]byte{nil, {}, []byte("a"), bytes.Repeat([]byte{0xff}, 600)} {
		if none.May(key) {
			t.Errorf("May(%.20q)", key)
		}
		for _, x := range []*table.Table{none, {}} {
			for _, seq := range []int64{math.MinInt64, 0, 1, math.MaxInt64} {
				if e, found := x.Get(key, seq); found || !zero(e) {
					t.Errorf("Get(%.20q, %d) = %s, %v", key, seq, show(of(e)), found)
				}
			}
			x.May(key)
			if x.List(key, nil) != nil || x.List(nil, key) != nil || x.List(key, key) != nil {
				t.Errorf("List of %.20q", key)
			}
		}
	}
	for _, x := range []*table.Table{none, {}} {
		if x.Len() != 0 || x.Least() != nil || x.Most() != nil || x.All() != nil {
			t.Errorf("%d, %q, %q, %s", x.Len(), x.Least(), x.Most(), show(x.All()))
		}
	}
}

// R2: the bytes that were opened are the caller's: changing them changes no answer.
func TestOpenKeepsNothing(t *testing.T) {
	for _, l := range small() {
		given, unchanged := guardedBytes(build(t, l))
		x := open(t, given)
		unchanged(t)
		overwrite(given)
		wantSameTable(t, x, l)
	}
}

// wantSameTable asks the table for all that it can tell.
func wantSameTable(t *testing.T, x *table.Table, l []api.Entry) {
	t.Helper()
	if x.Len() != len(l) || !same(x.All(), l) || !bytes.Equal(x.Least(), l[0].Key) || !bytes.Equal(x.Most(), l[len(l)-1].Key) {
		t.Errorf("%s became %s", show(l), show(x.All()))
	}
	for _, e := range l {
		if got, found := x.Get(e.Key, e.Seq); !found || !sameEntry(got, e) || !x.May(e.Key) {
			t.Errorf("Get(%.20q, %d) became %s, %v", e.Key, e.Seq, show(of(got)), found)
		}
	}
}

// R2: what is told is the caller's: changing it changes no later answer.
func TestAnswersAreTheCallers(t *testing.T) {
	for _, l := range small() {
		x := tableOf(t, l)
		overwrite(x.Least())
		overwrite(x.Most())
		told := append(x.All(), x.List(l[0].Key, nil)...)
		for _, e := range l {
			got, _ := x.Get(e.Key, e.Seq)
			told = append(told, got)
		}
		for _, b := range lists(told) {
			overwrite(b)
		}
		wantSameTable(t, x, l)
	}
}

// R2: no two lists of one answer share memory, nor do two answers.
func TestAnswersAreApart(t *testing.T) {
	for _, l := range [][]api.Entry{example(), many(30), numbersOf("one", falling(50, 1, 20)...), of(weighing("a", 9, 256), weighing("a", 8, 256), away("a", 7))} {
		x := tableOf(t, l)
		all := lists(append(x.All(), x.All()...))
		all = append(all, x.Least(), x.Least(), x.Most(), x.Most())
		got, _ := x.Get(l[0].Key, math.MaxInt64)
		wantApart(t, append(all, got.Key, got.Value))
	}
}

// R2: the keys that are asked for are neither changed nor kept.
func TestReadsKeepNothing(t *testing.T) {
	l := many(60)
	x := tableOf(t, l)
	for _, key := range keysAbout(l) {
		from, fromUnchanged := guardedBytes(key)
		to, toUnchanged := guardedBytes([]byte("key/00070"))
		e, _ := x.Get(from, math.MaxInt64)
		x.May(from)
		list := x.List(from, to)
		for _, b := range lists(append(list, e)) {
			overwrite(b)
		}
		fromUnchanged(t)
		toUnchanged(t)
		overwrite(from)
		overwrite(to)
	}
	wantSameTable(t, x, l)
}

// R6: two tables of one row of bytes have nothing to do with each other.
func TestTwoTables(t *testing.T) {
	a, b := many(40), numbersOf("one", falling(90, 1, 40)...)
	bytesA := build(t, a)
	x, y, z := open(t, bytesA), tableOf(t, b), open(t, bytesA)
	for _, e := range x.All() {
		overwrite(e.Key)
	}
	wantSameTable(t, x, a)
	wantSameTable(t, y, b)
	wantSameTable(t, z, a)
}
