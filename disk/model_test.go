package disk_test

import (
	"fmt"
	"maps"
	"math/big"
	"math/rand"
	"slices"
	"strings"
	"testing"

	"halyard/api"
	"halyard/disk"
)

// model is the chapter's disk in another way than the program's: each directory since the sure one stands there whole, files have numbers, calls are counted from the beginning on, in numbers without bounds.
type model struct {
	room    int64
	data    []string
	sure    []string
	history []map[string]int
	calls   int64
	fuseAt  *big.Int
	failing [2]*big.Int
	down    bool
}

func newModel(room int64) *model {
	return &model{room: max(room, 0), history: []map[string]int{{}}, fuseAt: big.NewInt(0), failing: [2]*big.Int{big.NewInt(0), big.NewInt(0)}}
}

func (m *model) now() map[string]int { return m.history[len(m.history)-1] }

func (m *model) copy() *model {
	c := *m
	c.data, c.sure, c.history = slices.Clone(m.data), slices.Clone(m.sure), slices.Clone(m.history)
	return &c
}

// call is a call that changes: what refuses it, and what it does.
func (m *model) call(makesSure bool, refused func() api.Errno, do func()) api.Errno {
	m.calls++
	if m.down {
		return api.ErrDown
	}
	at := big.NewInt(m.calls)
	fails := at.Cmp(m.failing[0]) >= 0 && at.Cmp(m.failing[1]) < 0
	errno := refused()
	if at.Cmp(m.fuseAt) == 0 {
		m.down = true
		if !fails && !makesSure && errno == api.OK {
			do()
		}
		return api.ErrDown
	}
	if fails {
		return api.ErrIO
	}
	if errno == api.OK {
		do()
	}
	return errno
}

func (m *model) next(turn func(dir map[string]int)) {
	dir := maps.Clone(m.now())
	turn(dir)
	m.history = append(m.history, dir)
}

func (m *model) lacks(name string) api.Errno {
	if _, ok := m.now()[name]; !ok {
		return api.ErrNone
	}
	return api.OK
}

func badName(name string) api.Errno {
	for _, c := range []byte(name) {
		if c == '/' || c == 0 {
			return api.ErrName
		}
	}
	if len(name) == 0 || len(name) > 64 {
		return api.ErrName
	}
	return api.OK
}

func first(l ...api.Errno) api.Errno {
	for _, e := range l {
		if e != api.OK {
			return e
		}
	}
	return api.OK
}

func (m *model) create(name string) api.Errno {
	return m.call(false, func() api.Errno {
		if e := badName(name); e != api.OK {
			return e
		}
		if m.lacks(name) == api.OK {
			return api.ErrExists
		}
		return api.OK
	}, func() {
		m.data, m.sure = append(m.data, ""), append(m.sure, "")
		m.next(func(dir map[string]int) { dir[name] = len(m.data) - 1 })
	})
}

func (m *model) append(name, b string) api.Errno {
	return m.call(false, func() api.Errno {
		if e := m.lacks(name); e != api.OK {
			return e
		}
		if len(m.data[m.now()[name]])+len(b) > 4194304 || m.used()+int64(len(b)) > m.room {
			return api.ErrRoom
		}
		return api.OK
	}, func() { m.data[m.now()[name]] += b })
}

func (m *model) sync(name string) api.Errno {
	return m.call(true, func() api.Errno { return m.lacks(name) }, func() { m.sure[m.now()[name]] = m.data[m.now()[name]] })
}

func (m *model) rename(old, name string) api.Errno {
	return m.call(false, func() api.Errno { return first(m.lacks(old), badName(name)) }, func() {
		if old != name {
			m.next(func(dir map[string]int) {
				dir[name] = dir[old]
				delete(dir, old)
			})
		}
	})
}

func (m *model) remove(name string) api.Errno {
	return m.call(false, func() api.Errno { return m.lacks(name) }, func() {
		m.next(func(dir map[string]int) { delete(dir, name) })
	})
}

func (m *model) syncDir() api.Errno {
	return m.call(true, func() api.Errno { return api.OK }, func() { m.history = []map[string]int{m.now()} })
}

func (m *model) used() int64 {
	sum := 0
	for _, f := range m.now() {
		sum += len(m.data[f])
	}
	return int64(sum)
}

func (m *model) fuse(n int64) {
	m.fuseAt = big.NewInt(0)
	if n >= 1 {
		m.fuseAt = new(big.Int).Add(big.NewInt(m.calls), big.NewInt(n))
	}
}

func (m *model) fault(from, count int64) {
	m.failing = [2]*big.Int{big.NewInt(0), big.NewInt(0)}
	if from >= 1 && count >= 1 {
		begin := new(big.Int).Add(big.NewInt(m.calls), big.NewInt(from))
		m.failing = [2]*big.Int{begin, new(big.Int).Add(begin, big.NewInt(count))}
	}
}

// pick is the pick at a place as a number from 0 to most.
func pick(picks []int, at, most int) int {
	if at >= len(picks) {
		return 0
	}
	n := big.NewInt(int64(picks[at]))
	if n.Sign() < 0 {
		n.Mod(n, new(big.Int).Lsh(big.NewInt(1), 62))
	}
	return int(n.Mod(n, big.NewInt(int64(most+1))).Int64())
}

func (m *model) crash(picks []int) {
	m.down = false
	m.fuse(0)
	m.fault(0, 0)
	m.history = []map[string]int{m.history[pick(picks, 0, len(m.history)-1)]}
	for i, name := range slices.Sorted(maps.Keys(m.now())) {
		f := m.now()[name]
		k := len(m.data[f]) - len(m.sure[f])
		m.data[f] = m.data[f][:len(m.sure[f])+pick(picks, i+1, k)]
		m.sure[f] = m.data[f]
	}
}

func (m *model) spoil(name string, at int, with byte) bool {
	f, ok := m.now()[name]
	if m.down || !ok || at < 0 || at >= len(m.data[f]) {
		return false
	}
	m.data[f] = m.data[f][:at] + string([]byte{with}) + m.data[f][at+1:]
	m.sure[f] = m.data[f][:len(m.sure[f])]
	return true
}

func (m *model) look() string {
	var out strings.Builder
	fmt.Fprint(&out, "down ", m.down, " used ", m.used())
	if m.down {
		return out.String()
	}
	for _, name := range slices.Sorted(maps.Keys(m.now())) {
		fmt.Fprintf(&out, " %q:%q", name, m.data[m.now()[name]])
	}
	return out.String()
}

// pair is a disk and its model, to which the same is done.
type pair struct {
	d *disk.Disk
	m *model
}

func newPair(room int64) pair { return pair{disk.New(room), newModel(room)} }

// holds asks whether both tell the same.
func (p pair) holds(t *testing.T, what string, got, want any) bool {
	t.Helper()
	if got != want {
		t.Errorf("%s: %v, not %v", what, got, want)
		return false
	}
	if g, w := look(p.d), p.m.look(); g != w {
		t.Errorf("%s: tells %s, not %s", what, g, w)
		return false
	}
	if p.d.Calls() != p.m.calls {
		t.Errorf("%s: %d calls, not %d", what, p.d.Calls(), p.m.calls)
		return false
	}
	return true
}

func randomOf[T any](r *rand.Rand, l ...T) T { return l[r.Intn(len(l))] }

func randomName(r *rand.Rand) string {
	if r.Intn(20) == 0 {
		return randomOf(r, "", "x/y", "\x00", "n\x00", "/", strings.Repeat("n", 64), strings.Repeat("n", 65))
	}
	return randomOf(r, "a", "b", "c", "ab", "\xff")
}

func randomPicks(r *rand.Rand) []int {
	picks := make([]int, r.Intn(7))
	for i := range picks {
		picks[i] = randomOf(r, r.Intn(3), r.Intn(12), r.Int(), -1-r.Int(), -1, -1<<63, 1<<63-1, 1<<62, 1<<62-1, -1<<62)
	}
	return picks
}

// randomCall does one call that changes, the same to both.
func randomCall(r *rand.Rand, p pair) (what string, got, want api.Errno) {
	a, b := randomName(r), randomName(r)
	switch r.Intn(11) {
	case 0, 1, 2:
		return fmt.Sprintf("Create(%q)", a), p.d.Create(a), p.m.create(a)
	case 3, 4, 5:
		s := "abcdefghijklmnopqrstuvwxyz"[r.Intn(10):][:r.Intn(6)]
		return fmt.Sprintf("Append(%q, %q)", a, s), p.d.Append(a, []byte(s)), p.m.append(a, s)
	case 6:
		return fmt.Sprintf("Sync(%q)", a), p.d.Sync(a), p.m.sync(a)
	case 7, 8:
		return fmt.Sprintf("Rename(%q, %q)", a, b), p.d.Rename(a, b), p.m.rename(a, b)
	case 9:
		return fmt.Sprintf("Remove(%q)", a), p.d.Remove(a), p.m.remove(a)
	}
	return "SyncDir()", p.d.SyncDir(), p.m.syncDir()
}

// randomOther does one of the calls that are no changes of the disk's own.
func randomOther(r *rand.Rand, p pair) (what string, got, want any) {
	n, count := int64(r.Intn(8)-1), int64(r.Intn(5)-1)
	if r.Intn(10) == 0 {
		n, count = 1<<63-1-int64(r.Intn(2)), 1<<63-1
	}
	switch r.Intn(6) {
	case 0:
		p.d.Fuse(n)
		p.m.fuse(n)
		return fmt.Sprintf("Fuse(%d)", n), nil, nil
	case 1:
		p.d.Fault(n, count)
		p.m.fault(n, count)
		return fmt.Sprintf("Fault(%d, %d)", n, count), nil, nil
	case 2:
		name, at := randomName(r), r.Intn(8)-1
		return fmt.Sprintf("Spoil(%q, %d)", name, at), p.d.Spoil(name, at, 'S'), p.m.spoil(name, at, 'S')
	}
	picks := randomPicks(r)
	p.d.Crash(picks)
	p.m.crash(picks)
	return fmt.Sprintf("Crash(%d)", picks), nil, nil
}

// TestDiskIsTheModel: all promises at once, in scripts of any calls; now and then the disk is copied, and what is left behind must stay.
func TestDiskIsTheModel(t *testing.T) {
	for seed := range int64(3000) {
		r := rand.New(rand.NewSource(seed))
		p := newPair(int64(r.Intn(40) - 2))
		var script []string
		for range 60 {
			var what string
			var got, want any
			var left pair
			if r.Intn(8) == 0 {
				left = p
				p = pair{p.d.Copy(), p.m.copy()}
			}
			if r.Intn(6) == 0 {
				what, got, want = randomOther(r, p)
			} else {
				what, got, want = randomCall(r, p)
			}
			script = append(script, what)
			if !p.holds(t, strings.Join(script, ", "), got, want) {
				return
			}
			if left.d != nil && !left.holds(t, "left behind by "+strings.Join(script, ", "), nil, nil) {
				return
			}
		}
	}
}

// TestAllShortScripts: each row of up to five calls, and behind it each crash.
func TestAllShortScripts(t *testing.T) {
	calls := []func(pair) (api.Errno, api.Errno){
		func(p pair) (api.Errno, api.Errno) { return p.d.Create("a"), p.m.create("a") },
		func(p pair) (api.Errno, api.Errno) { return p.d.Create("b"), p.m.create("b") },
		func(p pair) (api.Errno, api.Errno) { return p.d.Append("a", []byte("xy")), p.m.append("a", "xy") },
		func(p pair) (api.Errno, api.Errno) { return p.d.Sync("a"), p.m.sync("a") },
		func(p pair) (api.Errno, api.Errno) { return p.d.Rename("a", "b"), p.m.rename("a", "b") },
		func(p pair) (api.Errno, api.Errno) { return p.d.Remove("a"), p.m.remove("a") },
		func(p pair) (api.Errno, api.Errno) { return p.d.SyncDir(), p.m.syncDir() },
	}
	var walk func(p pair, row string, left int)
	walk = func(p pair, row string, left int) {
		for _, picks := range [][]int{nil, {1}, {2, 1}, {3, 2, 1}, {4, 1, 2}, {5, 2}} {
			c := pair{p.d.Copy(), p.m.copy()}
			c.d.Crash(picks)
			c.m.crash(picks)
			c.holds(t, fmt.Sprint("calls ", row, " Crash ", picks), nil, nil)
		}
		if left == 0 || t.Failed() {
			return
		}
		for i, call := range calls {
			c := pair{p.d.Copy(), p.m.copy()}
			got, want := call(c)
			here := fmt.Sprint(row, i)
			c.holds(t, "calls "+here, got, want)
			walk(c, here, left-1)
		}
	}
	walk(newPair(3), "", 5)
}
