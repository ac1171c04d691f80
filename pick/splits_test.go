package pick_test

import (
	"slices"
	"testing"
)

// TestSplitsExample asks for the chapter's example.
func TestSplitsExample(t *testing.T) {
	wantSplits(t, []int64{600, 500, 2000, 1}, 2, 1, 1)
}

// TestSplits asks for P17.4.
func TestSplits(t *testing.T) {
	for _, c := range []struct {
		weights []int64
		want    []int
	}{
		{nil, nil}, {[]int64{}, nil},
		{[]int64{1}, []int{1}}, {[]int64{1023}, []int{1}}, {[]int64{1024}, []int{1}}, {[]int64{1025}, []int{1}}, {[]int64{greater}, []int{1}},
		{[]int64{1, 1}, []int{2}}, {[]int64{1023, 1}, []int{2}}, {[]int64{1022, 1}, []int{2}}, {[]int64{1024, 1}, []int{1, 1}}, {[]int64{1, 1024}, []int{2}}, {[]int64{1, 1023}, []int{2}},
		{[]int64{1023, 1, 1}, []int{2, 1}}, {[]int64{1022, 1, 1}, []int{3}}, {[]int64{1022, 1, 1, 1}, []int{3, 1}}, {[]int64{1023, 2, 1023, 1, 5}, []int{2, 2, 1}},
		{[]int64{512, 511, 1}, []int{3}}, {[]int64{512, 512, 1}, []int{2, 1}}, {[]int64{512, 513, 1023, 1}, []int{2, 2}},
		{[]int64{1024, 1024, 1024}, []int{1, 1, 1}}, {[]int64{1023, 1023, 1023}, []int{2, 1}}, {[]int64{1025, 1023, 1}, []int{1, 2}},
		// What is above the limit is not counted on in the next table.
		{[]int64{2047, 1, 1}, []int{1, 2}}, {[]int64{1023, 1024, 1, 1022}, []int{2, 2}}, {[]int64{5000, 1023}, []int{1, 1}},
		// Sums that would be too great for a number.
		{[]int64{greater, greater, greater}, []int{1, 1, 1}}, {[]int64{1, greater, 1, greater}, []int{2, 2}}, {[]int64{1023, greater, 1022, 1, greater, 9}, []int{2, 3, 1}}, {[]int64{1000, 1 << 62, 1 << 62, 1 << 62}, []int{2, 1, 1}},
	} {
		wantSplits(t, c.weights, c.want...)
	}
}

// TestSplitsMany asks for weights of 1 in great number.
func TestSplitsMany(t *testing.T) {
	for _, n := range []int{1023, 1024, 1025, 2047, 2048, 2049, 100_000} {
		ones := slices.Repeat([]int64{1}, n)
		want := slices.Repeat([]int{1024}, n/1024)
		if n%1024 > 0 {
			want = append(want, n%1024)
		}
		wantSplits(t, ones, want...)
	}
	wantSplits(t, slices.Repeat([]int64{greater}, 50_000), slices.Repeat([]int{1}, 50_000)...)
}

// TestSplitsRefused asks for a weight of 0 and below at each place.
func TestSplitsRefused(t *testing.T) {
	for _, w := range []int64{0, -1, -1024, lowest} {
		wantSplits(t, []int64{w})
		wantSplits(t, []int64{w, w})
		for _, row := range [][]int64{{1, 1, 1}, {600, 500, 2000, 1}, {1024, 1024, 1024}, {greater, 1, greater}} {
			for i := range row {
				weights := slices.Clone(row)
				weights[i] = w
				wantSplits(t, weights)
			}
			wantSplits(t, append(slices.Clone(row), w))
		}
	}
}
