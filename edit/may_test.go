package edit_test

import (
	"bytes"
	"math"
	"slices"
	"strings"
	"testing"

	"halyard/api"
	"halyard/edit"
)

// P14.1: which edits may be. (Each look at May is one at Encode, too: wantMay.)

func TestMayOfEditsThatMayBe(t *testing.T) {
	for _, e := range good() {
		wantMay(t, e, true)
		for _, l := range e.Add {
			if !edit.MayTable(l) {
				t.Errorf("MayTable(%s) = false", showLine(l))
			}
		}
	}
}

func TestMayOfTheNumberOfALine(t *testing.T) {
	for _, n := range []int64{1, 2, 127, 128, 1 << 31, 1 << 32, number - 1, number} {
		wantLine(t, line(n, 1, 5, "k", "l"), true)
	}
	for _, n := range []int64{0, -1, -2, -number, math.MinInt64, number + 1, number + 2, 1 << 41, mark, math.MaxInt64} {
		wantLine(t, line(n, 1, 5, "k", "l"), false)
	}
}

func TestMayOfTheLevelOfALine(t *testing.T) {
	for _, level := range []int{0, 1, 2, 3} {
		wantLine(t, line(7, level, 5, "k", "l"), true)
	}
	for _, level := range []int{-1, -2, -4, math.MinInt, 4, 5, 127, 256, 1 << 32, math.MaxInt} {
		wantLine(t, line(7, level, 5, "k", "l"), false)
	}
}

func TestMayOfTheSizeOfALine(t *testing.T) {
	for _, size := range []int64{1, 2, 128, biggest - 1, biggest} {
		wantLine(t, line(7, 1, size, "k", "l"), true)
	}
	for _, size := range []int64{0, -1, -biggest, math.MinInt64, biggest + 1, biggest + 2, 1 << 23, 1<<32 + 5, math.MaxInt64} {
		wantLine(t, line(7, 1, size, "k", "l"), false)
	}
}

func TestMayOfTheLengthsOfKeys(t *testing.T) {
	for _, n := range []int{1, 2, 511, 512} {
		wantLine(t, line(7, 1, 5, strings.Repeat("k", n), strings.Repeat("l", n)), true)
		wantLine(t, line(7, 1, 5, "a", strings.Repeat("l", n)), true)
		wantLine(t, line(7, 1, 5, strings.Repeat("k", n), "z"), true)
	}
	for _, n := range []int{0, 513, 514, 1024, 100000} {
		wantLine(t, line(7, 1, 5, strings.Repeat("k", n), strings.Repeat("l", n)), false)
		wantLine(t, line(7, 1, 5, strings.Repeat("k", n), strings.Repeat("k", n)), false)
		wantLine(t, line(7, 1, 5, "a", strings.Repeat("l", n)), false)
		wantLine(t, line(7, 1, 5, strings.Repeat("k", n), "z"), false)
	}
	for _, none := range [][]byte{nil, {}} {
		for _, l := range []api.Table{{Number: 1, Size: 1, Least: none, Most: []byte("z")}, {Number: 1, Size: 1, Least: []byte("a"), Most: none}, {Number: 1, Size: 1, Least: none, Most: none}} {
			if edit.MayTable(l) || edit.May(adding(l)) {
				t.Errorf("%s may be", showLine(l))
			}
		}
	}
}

func TestMayOfTheOrderOfKeys(t *testing.T) {
	full := strings.Repeat("k", longest)
	// Rising: of two of them the first may be Least and the second Most, and not the other way round.
	keys := []string{"\x00", "\x00\x00", "\x00\xff", "\x01", "a", "a\x00", "aa", "ab", "a\xff", "b", full[:511], full, full[:511] + "l", "l", "\x7f", "\x7f\xff", "\x80", "\xff", "\xff\x00", strings.Repeat("\xff", 512)}
	for i, least := range keys {
		for j, most := range keys {
			wantLine(t, line(7, 1, 5, least, most), i <= j)
		}
	}
}

func TestMayOfLinesWithSeveralWrongParts(t *testing.T) {
	for _, l := range everyLine() {
		if got, want := edit.MayTable(l), lineMayBe(l); got != want {
			t.Errorf("MayTable(%s) = %v", showLine(l), got)
		}
		if got, want := edit.May(adding(l)), lineMayBe(l); got != want {
			t.Errorf("May(%s) = %v", show(adding(l)), got)
		}
	}
}

func TestMayOfTheMarks(t *testing.T) {
	e := api.Edit{Log: 1, Next: 2, Seq: 3, Add: manyLines(1, 2), Remove: []int64{5}}
	for _, n := range []int64{0, 1, 127, 128, 1 << 40, 1<<40 + 1, mark - 1, mark} {
		log, next, seq := e, e, e
		log.Log, next.Next, seq.Seq = n, n, n
		for _, e := range []api.Edit{log, next, seq, {Log: n}, {Next: n}, {Seq: n}, {Log: n, Next: n, Seq: n}} {
			wantMay(t, e, true)
		}
	}
	for _, n := range []int64{-1, -2, -mark, math.MinInt64, math.MinInt64 + 1, mark + 1, mark + 2, math.MaxInt64 - 1, math.MaxInt64} {
		log, next, seq := e, e, e
		log.Log, next.Next, seq.Seq = n, n, n
		for _, e := range []api.Edit{log, next, seq, {Log: n}, {Next: n}, {Seq: n}, {Log: n, Next: n, Seq: n}} {
			wantMay(t, e, false)
		}
	}
}

func TestMayOfTheNumbersToRemove(t *testing.T) {
	for _, n := range []int64{1, 2, 127, 128, 1 << 32, number - 1, number} {
		for _, numbers := range [][]int64{{n}, {5, n}, {n, 5}, {5, n, 6}} {
			wantMay(t, removing(numbers...), true)
		}
	}
	for _, n := range []int64{0, -1, -5, -number, math.MinInt64, number + 1, number + 2, mark, math.MaxInt64} {
		for _, numbers := range [][]int64{{n}, {5, n}, {n, 5}, {5, n, 6}} {
			wantMay(t, removing(numbers...), false)
		}
	}
}

func TestMayOfHowMany(t *testing.T) {
	for _, n := range []int{0, 1, 199, 200} {
		wantMay(t, adding(manyLines(1, n)...), true)
		wantMay(t, removing(manyNumbers(1, n)...), true)
		wantMay(t, api.Edit{Add: manyLines(1, n), Remove: manyNumbers(1, 200)}, true)
		wantMay(t, api.Edit{Add: manyLines(1, 200), Remove: manyNumbers(1, n)}, true)
	}
	for _, n := range []int{201, 202, 400, 5000} {
		wantMay(t, adding(manyLines(1, n)...), false)
		wantMay(t, removing(manyNumbers(1, n)...), false)
		wantMay(t, api.Edit{Add: manyLines(1, n), Remove: manyNumbers(9, 1)}, false)
		wantMay(t, api.Edit{Add: manyLines(1, 1), Remove: manyNumbers(9, n)}, false)
		wantMay(t, api.Edit{Add: manyLines(1, n), Remove: manyNumbers(9, n)}, false)
	}
}

func TestMayOfNoLists(t *testing.T) {
	for _, e := range []api.Edit{{}, {Add: []api.Table{}}, {Remove: []int64{}}, {Add: []api.Table{}, Remove: []int64{}}} {
		if b, errno := edit.Encode(e); !edit.May(e) || errno != api.OK || !bytes.Equal(b, make([]byte, 5)) {
			t.Errorf("%x, %d", b, errno)
		}
	}
}

func TestMayOfNumbersThatStandTwiceInAdd(t *testing.T) {
	for _, n := range []int{2, 3, 10, 200} {
		for _, first := range []int{0, 1, n / 2, n - 2} {
			for _, second := range []int{1, n / 2, n - 1} {
				if first >= second {
					continue
				}
				lines := manyLines(1, n)
				lines[second].Number = lines[first].Number
				wantMay(t, adding(lines...), false)
				lines[second] = lines[first]
				wantMay(t, adding(lines...), false)
			}
		}
	}
	wantMay(t, adding(line(5, 0, 1, "a", "b"), line(5, 1, 2, "c", "d")), false)
	wantMay(t, adding(line(5, 0, 1, "a", "b"), line(5, 0, 1, "a", "b"), line(5, 0, 1, "a", "b")), false)
	wantMay(t, adding(line(number, 0, 1, "a", "b"), line(1, 0, 1, "a", "b"), line(number, 0, 1, "a", "b")), false)
	// The number alone must be another one: all else may be the same.
	wantMay(t, adding(line(5, 0, 1, "a", "b"), line(6, 0, 1, "a", "b"), line(4, 0, 1, "a", "b")), true)
}

func TestMayOfNumbersThatStandTwiceInRemove(t *testing.T) {
	for _, n := range []int{2, 3, 10, 200} {
		for _, first := range []int{0, 1, n / 2, n - 2} {
			for _, second := range []int{1, n / 2, n - 1} {
				if first >= second {
					continue
				}
				numbers := manyNumbers(1, n)
				numbers[second] = numbers[first]
				wantMay(t, removing(numbers...), false)
				slices.Reverse(numbers)
				wantMay(t, removing(numbers...), false)
			}
		}
	}
	wantMay(t, removing(5, 5), false)
	wantMay(t, removing(5, 5, 5), false)
	wantMay(t, removing(number, 1, number), false)
}

func TestMayOfNumbersThatStandInBoth(t *testing.T) {
	wantMay(t, api.Edit{Add: []api.Table{line(5, 0, 1, "a", "b")}, Remove: []int64{5}}, true)
	wantMay(t, api.Edit{Add: manyLines(1, 200), Remove: manyNumbers(1, 200)}, true)
	wantMay(t, api.Edit{Add: []api.Table{line(5, 0, 1, "a", "b")}, Remove: []int64{5, 5}}, false)
	wantMay(t, api.Edit{Add: []api.Table{line(5, 0, 1, "a", "b"), line(5, 0, 1, "a", "b")}, Remove: []int64{5}}, false)
}

func TestMayLooksAtEveryLineAndNumber(t *testing.T) {
	for at := range tables {
		lines, numbers := manyLines(1, tables), manyNumbers(1, tables)
		lines[at].Most = nil
		numbers[at] = number + 1
		wantMay(t, adding(lines...), false)
		wantMay(t, removing(numbers...), false)
	}
}

// What an edit says of tables and marks need not fit together: that is a version's matter.
func TestMayAsksNoMoreThanItsWords(t *testing.T) {
	wantMay(t, api.Edit{Log: 9, Next: 1, Seq: 0, Add: []api.Table{line(50, 0, 1, "a", "b")}}, true)
	wantMay(t, adding(line(5, 1, 1, "a", "m"), line(4, 1, 1, "b", "c"), line(9, 0, 1, "a", "b")), true)
	wantMay(t, removing(9, 1, 5), true)
}
