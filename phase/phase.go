// Package phase: a meter with four phases: see ../../shared/doc/01-phase.md.
package phase

const (
	maxAdded = 1 << 20
	maxCount = 1 << 38
)

// Meter counts what comes, by its tick's phase.
type Meter struct {
	counts [4]int64
}

// Turn is the unit to the power k.
func Turn(k int64) complex128 {
	switch placeOf(k) {
	case 1:
		goto quarter
	case 2:
		goto half
	case 3:
		goto threeQuarters
	}
	return 1
quarter:
	return 1i
half:
	return -1
threeQuarters:
	return -1i
}

// placeOf masks, since % would tell places below 0 of numbers below 0.
func placeOf(n int64) int {
	return int(n & 3)
}

// Forth is the four waves of a row.
func Forth(x [4]complex128) [4]complex128 {
	return turnedSums(x, -1)
}

// Back is the row of four waves.
func Back(x [4]complex128) [4]complex128 {
	row := turnedSums(x, 1)
	for j, sum := range row {
		// Part by part: a float loses nothing by a quarter, and no product of parts comes in.
		row[j] = complex(real(sum)/4, imag(sum)/4)
	}
	return row
}

// turnedSums serves both ways: Forth and Back differ in the sign of way alone.
func turnedSums(x [4]complex128, way int) [4]complex128 {
	var sums [4]complex128
	for k := range sums {
		for j, term := range x {
			sums[k] += term * Turn(int64(way*j*k))
		}
	}
	return sums
}

// New is a meter with nothing.
func New() *Meter {
	return &Meter{}
}

// Add counts n more at tick's phase, if n and the phase's count stay within their bounds.
func (m *Meter) Add(tick int64, n int) bool {
	if m == nil || n < 0 || n > maxAdded {
		return false
	}
	count := &m.counts[placeOf(tick)]
	if *count+int64(n) > maxCount {
		return false
	}
	*count += int64(n)
	return true
}

// Counts tells how many came at each phase.
func (m *Meter) Counts() [4]int64 {
	if m == nil {
		return [4]int64{}
	}
	return m.counts
}

// Wave is the wave of the counts at place k modulo 4.
func (m *Meter) Wave(k int) complex128 {
	var row [4]complex128
	for j, count := range m.Counts() {
		row[j] = complex(float64(count), 0)
	}
	return Forth(row)[placeOf(int64(k))]
}

// Peak is the least phase of those with the most.
func (m *Meter) Peak() int {
	counts := m.Counts()
	peak := 0
	for j, count := range counts {
		// Not >=: of several with the most the least phase stays.
		if count > counts[peak] {
			peak = j
		}
	}
	return peak
}
