package phase_test

import (
	"math"
	"math/cmplx"
	"testing"

	"halyard/phase"
)

type row = [4]complex128

// units is told apart from Turn, so that the tests do not hold Turn against itself.
var units = row{1, 1i, -1, -1i}

// rest of n by 4, from 0 to 3, without a mask: another way than the program's.
func rest(n int64) int {
	return int((n%4 + 4) % 4)
}

// rows that the laws are tried on; all parts are whole and at most bound in size.
func rows(bound float64) []row {
	b := complex(bound, 0)
	return []row{
		{},
		{1, 0, 0, 0}, {0, 1, 0, 0}, {0, 0, 1, 0}, {0, 0, 0, 1},
		{1i, 0, 0, 0}, {0, 1i, 0, 0}, {0, 0, 1i, 0}, {0, 0, 0, 1i},
		{1, 2, 3, 4}, {-1, 5i, 7 - 3i, -2 + 9i},
		{b, b, b, b}, {-b, -b, -b, -b}, {b, -b, b, -b},
		{b + b*1i, b - b*1i, -b + b*1i, -b - b*1i},
		{b - 1, 1, -b + 1i, b*1i - 1i},
	}
}

// wavesOf works the waves out in integers, by the definition.
func wavesOf(x row, way int64) (re, im [4]int64) {
	for k := range int64(4) {
		for j := range int64(4) {
			a, b := int64(real(x[j])), int64(imag(x[j]))
			for range rest(way * j * k) {
				a, b = -b, a
			}
			re[k] += a
			im[k] += b
		}
	}
	return re, im
}

// P1.1

func TestTurnIsAPowerOfTheUnit(t *testing.T) {
	for k := int64(-50); k <= 50; k++ {
		if got := phase.Turn(k); got != units[rest(k)] {
			t.Errorf("Turn(%d) = %v", k, got)
		}
	}
}

func TestTurnOfTheExamples(t *testing.T) {
	if phase.Turn(2) != -1 || phase.Turn(-3) != 1i || phase.Turn(-1) != -1i {
		t.Error(phase.Turn(2), phase.Turn(-3), phase.Turn(-1))
	}
}

func TestTurnAtTheEndsOfItsNumbers(t *testing.T) {
	for i := range int64(4) {
		if got := phase.Turn(math.MinInt64 + i); got != units[i] {
			t.Errorf("Turn(least + %d) = %v", i, got)
		}
		if got := phase.Turn(math.MaxInt64 - i); got != units[3-i] {
			t.Errorf("Turn(greatest - %d) = %v", i, got)
		}
	}
}

// P1.2

func TestForthOfTheExamples(t *testing.T) {
	if got := phase.Forth(row{1, 0, 0, 0}); got != (row{1, 1, 1, 1}) {
		t.Error(got)
	}
	if got := phase.Forth(row{0, 1, 0, 0}); got != (row{1, -1i, -1, 1i}) {
		t.Error(got)
	}
}

func TestForthIsTheSumOfTurnedTerms(t *testing.T) {
	for _, x := range rows(1 << 40) {
		re, im := wavesOf(x, -1)
		for k, got := range phase.Forth(x) {
			if want := complex(float64(re[k]), float64(im[k])); got != want {
				t.Errorf("Forth(%v)[%d] = %v, want %v", x, k, got, want)
			}
		}
	}
}

func TestBackIsAQuarterOfTheSumOfTurnedTerms(t *testing.T) {
	for _, x := range rows(1 << 40) {
		re, im := wavesOf(x, 1)
		for j, got := range phase.Back(x) {
			if want := complex(float64(re[j])/4, float64(im[j])/4); got != want {
				t.Errorf("Back(%v)[%d] = %v, want %v", x, j, got, want)
			}
		}
	}
}

func TestBackTellsQuartersThatAreNotWhole(t *testing.T) {
	if got := phase.Back(row{0, 1, 0, 0}); got != (row{0.25, 0.25i, -0.25, -0.25i}) {
		t.Error(got)
	}
}

func TestRowsAreNotChanged(t *testing.T) {
	x := row{1, 2i, -3, 4}
	phase.Forth(x)
	phase.Back(x)
	if x != (row{1, 2i, -3, 4}) {
		t.Error(x)
	}
}

func TestRowsThatAreNotWholeEnd(t *testing.T) {
	for _, odd := range []complex128{cmplx.NaN(), cmplx.Inf(), 0.5, complex(math.MaxFloat64, -math.MaxFloat64), complex(math.Inf(-1), 0)} {
		x := row{odd, 1, odd, odd}
		phase.Forth(x)
		phase.Back(x)
	}
}

// P1.3

func TestNewHasNothing(t *testing.T) {
	m := phase.New()
	if m == nil || m.Counts() != [4]int64{} || m.Peak() != 0 {
		t.Fatal(m)
	}
	for k := range 4 {
		if m.Wave(k) != 0 {
			t.Error(k, m.Wave(k))
		}
	}
}

func TestMetersAreApart(t *testing.T) {
	a, b := phase.New(), phase.New()
	a.Add(1, 7)
	if b.Counts() != [4]int64{} {
		t.Error(b.Counts())
	}
}

func TestAddCountsAtTheTicksPhase(t *testing.T) {
	m := phase.New()
	var want [4]int64
	for tick := int64(-20); tick <= 20; tick++ {
		n := int(tick + 21)
		if !m.Add(tick, n) {
			t.Errorf("Add(%d, %d) is refused", tick, n)
		}
		want[rest(tick)] += int64(n)
		if m.Counts() != want {
			t.Fatalf("behind tick %d: %v, want %v", tick, m.Counts(), want)
		}
	}
}

func TestAddAtTheEndsOfTheTicks(t *testing.T) {
	m := phase.New()
	if !m.Add(math.MinInt64, 1) || !m.Add(math.MaxInt64, 2) || !m.Add(math.MinInt64+1, 4) || !m.Add(math.MaxInt64-1, 8) {
		t.Error("refused")
	}
	if got := m.Counts(); got != [4]int64{1, 4, 8, 2} {
		t.Error(got)
	}
}

func TestAddTakesFromNoneToItsMost(t *testing.T) {
	m := phase.New()
	if !m.Add(0, 0) || m.Counts() != [4]int64{} {
		t.Error("none", m.Counts())
	}
	if !m.Add(0, 1<<20) || m.Counts() != [4]int64{1 << 20} {
		t.Error("most", m.Counts())
	}
}

func TestAddRefusesWrongNumbers(t *testing.T) {
	m := phase.New()
	m.Add(2, 5)
	for _, n := range []int{-1, -2, -5, math.MinInt64, 1<<20 + 1, 1 << 21, 1 << 38, math.MaxInt64} {
		for tick := int64(-4); tick < 4; tick++ {
			if m.Add(tick, n) {
				t.Errorf("Add(%d, %d) is taken", tick, n)
			}
			if m.Counts() != [4]int64{2: 5} {
				t.Fatalf("Add(%d, %d) leaves %v", tick, n, m.Counts())
			}
		}
	}
}

// filled is a meter whose phase p has short less than its most.
func filled(t *testing.T, p int64, short int) *phase.Meter {
	t.Helper()
	m := phase.New()
	for range 1<<18 - 1 {
		if !m.Add(p, 1<<20) {
			t.Fatal("refused below the most")
		}
	}
	if !m.Add(p, 1<<20-short) {
		t.Fatal("refused below the most")
	}
	return m
}

func TestAddKeepsAPhaseWithinItsMost(t *testing.T) {
	m := filled(t, 1, 3)
	full := [4]int64{1: 1 << 38}
	if m.Add(1, 4) || m.Add(-3, 1<<20) || m.Counts() != [4]int64{1: 1<<38 - 3} {
		t.Error("too many are taken", m.Counts())
	}
	if !m.Add(5, 3) || m.Counts() != full {
		t.Error("the most is refused", m.Counts())
	}
	if m.Add(1, 1) || m.Add(1, 1<<20) || m.Counts() != full {
		t.Error("one above the most is taken", m.Counts())
	}
	if !m.Add(1, 0) || m.Counts() != full {
		t.Error("none is refused at the most", m.Counts())
	}
	if !m.Add(2, 1<<20) || m.Counts() != [4]int64{0, 1 << 38, 1 << 20, 0} {
		t.Error("a full phase closes another", m.Counts())
	}
}

func TestCountsAreACopy(t *testing.T) {
	m := phase.New()
	m.Add(3, 9)
	told := m.Counts()
	told[3] = 0
	if m.Counts() != [4]int64{3: 9} {
		t.Error(m.Counts())
	}
}

// P1.4

// meterOf is a meter with these counts.
func meterOf(t *testing.T, counts [4]int) *phase.Meter {
	t.Helper()
	m := phase.New()
	for p, n := range counts {
		if !m.Add(int64(p), n) {
			t.Fatal(p, n)
		}
	}
	return m
}

func someCounts() [][4]int {
	return [][4]int{
		{}, {1, 0, 0, 0}, {0, 1, 0, 0}, {0, 0, 1, 0}, {0, 0, 0, 1},
		{0, 3, 1, 0}, {5, 1, 8, 2}, {1 << 20, 1, 0, 1<<20 - 1}, {1 << 20, 1 << 20, 1 << 20, 1 << 20},
	}
}

func TestWaveOfTheExample(t *testing.T) {
	m := phase.New()
	if !m.Add(5, 3) || !m.Add(6, 1) || m.Wave(1) != -1-3i || m.Peak() != 1 {
		t.Error(m.Wave(1), m.Peak())
	}
}

func TestWaveIsForthOfTheCounts(t *testing.T) {
	for _, counts := range someCounts() {
		m := meterOf(t, counts)
		var x row
		for p, n := range counts {
			x[p] = complex(float64(n), 0)
		}
		re, im := wavesOf(x, -1)
		for k := -9; k <= 9; k++ {
			p := rest(int64(k))
			if got, want := m.Wave(k), complex(float64(re[p]), float64(im[p])); got != want {
				t.Errorf("%v: Wave(%d) = %v, want %v", counts, k, got, want)
			}
		}
	}
}

func TestWaveAtTheEndsOfItsPlaces(t *testing.T) {
	m := meterOf(t, [4]int{5, 1, 8, 2})
	waves := row{16, -3 + 1i, 10, -3 - 1i}
	for i := range 4 {
		if got := m.Wave(math.MinInt64 + i); got != waves[i] {
			t.Errorf("Wave(least + %d) = %v", i, got)
		}
		if got := m.Wave(math.MaxInt64 - i); got != waves[3-i] {
			t.Errorf("Wave(greatest - %d) = %v", i, got)
		}
	}
}

func TestWaveOfGreatCountsIsExact(t *testing.T) {
	// One less than the most: all of its bits are set, so a narrower number would show.
	const n = 1<<38 - 1
	m := filled(t, 3, 1)
	m.Add(0, 2)
	for k, want := range (row{n + 2, 2 + n*1i, 2 - n, 2 - n*1i}) {
		if got := m.Wave(k); got != want {
			t.Errorf("Wave(%d) = %v, want %v", k, got, want)
		}
	}
	m.Add(3, 1)
	if got := m.Wave(0); got != 1<<38+2 {
		t.Error(got)
	}
}

func TestPeakIsTheLeastPhaseWithTheMost(t *testing.T) {
	for code := range 81 {
		counts := [4]int{code % 3, code / 3 % 3, code / 9 % 3, code / 27}
		want := 0
		for most := max(counts[0], counts[1], counts[2], counts[3]); counts[want] != most; {
			want++
		}
		if got := meterOf(t, counts).Peak(); got != want {
			t.Errorf("%v: Peak = %d, want %d", counts, got, want)
		}
	}
}

func TestAskingChangesNothing(t *testing.T) {
	m := meterOf(t, [4]int{5, 1, 8, 2})
	m.Wave(1)
	m.Peak()
	m.Counts()
	if m.Counts() != [4]int64{5, 1, 8, 2} {
		t.Error(m.Counts())
	}
}

func TestNilMeterTellsZeroValues(t *testing.T) {
	var m *phase.Meter
	if m.Add(0, 0) || m.Add(1, 1) || m.Add(1, -1) || m.Counts() != [4]int64{} || m.Peak() != 0 {
		t.Error("not zero")
	}
	for k := -5; k <= 5; k++ {
		if m.Wave(k) != 0 {
			t.Error(k, m.Wave(k))
		}
	}
}

// P1.5

func TestBackUndoesForth(t *testing.T) {
	for _, x := range rows(1<<36 - 1) {
		if got := phase.Back(phase.Forth(x)); got != x {
			t.Errorf("Back(Forth(%v)) = %v", x, got)
		}
	}
}

func TestTurnsMultiplyAsTheirPowersAdd(t *testing.T) {
	for a := int64(-9); a <= 9; a++ {
		for b := int64(-9); b <= 9; b++ {
			if phase.Turn(a)*phase.Turn(b) != phase.Turn(a+b) {
				t.Error(a, b)
			}
		}
	}
	for a := range int64(9) {
		if phase.Turn(math.MinInt64)*phase.Turn(a) != phase.Turn(math.MinInt64+a) || phase.Turn(math.MaxInt64)*phase.Turn(-a) != phase.Turn(math.MaxInt64-a) {
			t.Error("ends", a)
		}
	}
}

func TestWaveNoughtIsHowManyAllInAll(t *testing.T) {
	for _, counts := range someCounts() {
		all := counts[0] + counts[1] + counts[2] + counts[3]
		if got := meterOf(t, counts).Wave(0); got != complex(float64(all), 0) {
			t.Error(counts, got)
		}
	}
}

func TestWavesAreConjugates(t *testing.T) {
	for _, counts := range someCounts() {
		m := meterOf(t, counts)
		for k := -8; k <= 8; k++ {
			if m.Wave(k) != cmplx.Conj(m.Wave(4-k)) {
				t.Error(counts, k, m.Wave(k), m.Wave(4-k))
			}
		}
	}
}

// P1.6

func TestOnePhaseLaterTurnsTheFirstWave(t *testing.T) {
	for _, counts := range someCounts() {
		for _, first := range []int64{-7, -4, -1, 0, 1, 6, math.MinInt64, math.MaxInt64 - 4} {
			now, later := phase.New(), phase.New()
			for p, n := range counts {
				now.Add(first+int64(p), n)
				later.Add(first+int64(p)+1, n)
			}
			if later.Wave(1) != now.Wave(1)*-1i {
				t.Error(counts, first, now.Wave(1), later.Wave(1))
			}
		}
	}
}

// squares of the sizes, together; in integers, so that nothing is rounded.
func squares(x row) int64 {
	var sum int64
	for _, c := range x {
		a, b := int64(real(c)), int64(imag(c))
		sum += a*a + b*b
	}
	return sum
}

func TestForthKeepsTheSquaresFourfold(t *testing.T) {
	for _, x := range rows(1 << 20) {
		if got, want := squares(phase.Forth(x)), 4*squares(x); got != want {
			t.Errorf("%v: %d, want %d", x, got, want)
		}
	}
}
