package mem

import (
	"bytes"
	"fmt"
	"math/rand"
	"testing"

	"halyard/api"
)

// tallest are keys whose sums end in as many noughts as sums can, and one whose sum is nought.
var tallest = []string{"\x09\x40\x0f\xb5", "\x08\x80\xef\x10", "\x03\x50\x3a\xc3", "\x03\x68\x1c\x98", "\xf9\xc7\x7d\x7a"}

func someKeys(n int) []string {
	keys := append([]string{}, tallest...)
	for i := range n {
		keys = append(keys, fmt.Sprint("key", i))
	}
	return keys
}

// That a level is left out would be seen in no answer, only in how long one takes.
func TestEachLevelIsARowOfTheKeysThatReachIt(t *testing.T) {
	keys := someKeys(3000)
	rand.New(rand.NewSource(2)).Shuffle(len(keys), func(i, j int) { keys[i], keys[j] = keys[j], keys[i] })
	m := New()
	for i, k := range keys {
		if errno := m.Add(api.Entry{Key: []byte(k), Seq: int64(i + 1)}); errno != api.OK {
			t.Fatal(k, errno)
		}
	}
	for level := range levels {
		want := 0
		for _, k := range keys {
			if height([]byte(k)) > level {
				want++
			}
		}
		got := 0
		for n := m.head.next[level]; n != nil; n = n.next[level] {
			got++
			if next := n.next[level]; next != nil && bytes.Compare(n.key, next.key) >= 0 {
				t.Errorf("level %d: %q stands ahead of %q", level, n.key, next.key)
			}
		}
		if got != want {
			t.Errorf("level %d has %d keys, want %d", level, got, want)
		}
	}
}

func TestHeightsStayWithinTheLevels(t *testing.T) {
	for _, k := range append(someKeys(100), "", string(make([]byte, api.MaxKey)), string(bytes.Repeat([]byte{0xff}, api.MaxKey))) {
		if h := height([]byte(k)); h < 1 || h > levels {
			t.Errorf("height(%.20q) = %d", k, h)
		}
	}
	for _, k := range tallest {
		if h := height([]byte(k)); h != levels {
			t.Errorf("height(%q) = %d, want all levels", k, h)
		}
	}
}

// Keys that differ at one place only must not all stand at one height: the list would be a plain row.
func TestAboutOneKeyInFourReachesTheNextLevel(t *testing.T) {
	for name, key := range map[string]func(i int) string{
		"decimals":  func(i int) string { return fmt.Sprint(i) },
		"last byte": func(i int) string { return string([]byte{1, 2, byte(i >> 8), byte(i)}) },
		"first":     func(i int) string { return string([]byte{byte(i), byte(i >> 8), 1, 2, 3}) },
		"lengths":   func(i int) string { return string(make([]byte, 1+i%512)) },
		"topics":    func(i int) string { return fmt.Sprintf("house/room%d/lamp%d/state", i/100, i%100) },
	} {
		const n = 512 * 16
		var reach [levels + 1]int
		for i := range n {
			for level := range height([]byte(key(i))) {
				reach[level]++
			}
		}
		for level, want := 0, n; want > 256; level, want = level+1, want/4 {
			if reach[level] < want/2 || reach[level] > want*2 {
				t.Errorf("%s: %d of %d keys reach level %d, want about %d", name, reach[level], n, level, want)
			}
		}
	}
}
