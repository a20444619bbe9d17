package calc

import (
	"math"
	"math/big"
	"math/rand"
	"slices"
	"testing"

	"reliquary/num"
)

var (
	inf   = math.Inf(1)
	nan   = math.NaN()
	minus = math.Copysign(0, -1)
	// odd is a NaN with its sign and some payload set.
	odd = math.Float64frombits(0xfff8000000000123)
	// loud is one whose first payload bit is not set.
	loud = math.Float64frombits(0x7ff0000000000001)
)

// edges: in Cmp's order, each once.
var edges = []float64{-inf, -math.MaxFloat64, -1e16, -3, -1, -0.5, -math.SmallestNonzeroFloat64, minus, 0,
	math.SmallestNonzeroFloat64, 0.5, 1, 3, 1e16, math.MaxFloat64, inf, nan}

func is(t *testing.T, name string, got, want float64) {
	t.Helper()
	if math.Float64bits(got) != math.Float64bits(want) {
		t.Errorf("%s: %v (%x), want %v (%x)", name, got, math.Float64bits(got), want, math.Float64bits(want))
	}
}

// rounded is the nearest double of an exact sum or product of finite ones.
func rounded(x *big.Float) float64 {
	f, _ := x.Float64()
	return f
}

func exact(x float64) *big.Float {
	return new(big.Float).SetPrec(3000).SetFloat64(x)
}

// addExact adds two finite ones with one rounding.
func addExact(a, b float64) float64 {
	return rounded(exact(0).Add(exact(a), exact(b)))
}

func mulExact(a, b float64) float64 {
	return rounded(exact(0).Mul(exact(a), exact(b)))
}

// some finite ones, of sizes that make rounding tell.
func some(r *rand.Rand, n int) []float64 {
	l := make([]float64, n)
	for i := range l {
		l[i] = math.Ldexp(r.Float64()-0.5, r.Intn(60)-30)
	}
	return l
}

func TestSum(t *testing.T) {
	for _, c := range []struct {
		name string
		l    []float64
		want float64
	}{
		{"none", nil, 0},
		{"empty", []float64{}, 0},
		{"one", []float64{1.5}, 1.5},
		{"minus nought", []float64{minus, minus}, 0},
		{"whole", []float64{1, 2, 3, 4}, 10},
		{"in order", []float64{1e16, 1, -1e16}, 0},
		{"in another order", []float64{1e16, -1e16, 1}, 1},
		{"each rounded", []float64{1e16, 1, 1, 1, 1}, 1e16},
		{"from the left", []float64{1, 1, 1e16}, 1e16 + 2},
		{"no smaller kind", []float64{0.1, 0.2}, 0.30000000000000004},
		{"beyond", []float64{math.MaxFloat64, math.MaxFloat64, -math.MaxFloat64}, inf},
		{"infinity", []float64{1, inf, 2}, inf},
		{"minus infinity", []float64{1, -inf, 2}, -inf},
		{"both", []float64{inf, -inf}, nan},
		{"NaN", []float64{1, nan, 2}, nan},
		{"NaN of other bits", []float64{1, odd}, nan},
		{"NaN of other bits ahead", []float64{loud, odd, 1}, nan},
		{"NaN behind infinity", []float64{inf, odd}, nan},
	} {
		is(t, "Sum of "+c.name, Sum(c.l), c.want)
	}
}

func TestSumRoundsEach(t *testing.T) {
	r := rand.New(rand.NewSource(1))
	for range 200 {
		l := some(r, r.Intn(20))
		want := 0.0
		for _, x := range l {
			want = addExact(want, x)
		}
		is(t, "Sum", Sum(l), want)
	}
}

func TestMean(t *testing.T) {
	for _, c := range []struct {
		name string
		l    []float64
		want float64
	}{
		{"none", nil, nan},
		{"empty", []float64{}, nan},
		{"one", []float64{7}, 7},
		{"two", []float64{1, 2}, 1.5},
		{"three", []float64{1, 0, 0}, 1.0 / 3},
		{"minus nought", []float64{minus}, 0},
		{"divided behind the sum", []float64{math.MaxFloat64, math.MaxFloat64}, inf},
		{"in order", []float64{1e16, 1, -1e16}, 0},
		{"infinity", []float64{-inf, 5}, -inf},
		{"both", []float64{-inf, inf}, nan},
		{"NaN", []float64{3, odd}, nan},
	} {
		is(t, "Mean of "+c.name, Mean(c.l), c.want)
	}
}

func TestMinMax(t *testing.T) {
	for _, c := range []struct {
		name      string
		l         []float64
		low, high float64
	}{
		{"none", nil, inf, -inf},
		{"empty", []float64{}, inf, -inf},
		{"one", []float64{3}, 3, 3},
		{"three", []float64{2, -7, 5}, -7, 5},
		{"noughts", []float64{0, minus}, minus, 0},
		{"noughts turned", []float64{minus, 0}, minus, 0},
		{"infinity alone", []float64{inf}, inf, inf},
		{"minus infinity alone", []float64{-inf}, -inf, -inf},
		{"infinities", []float64{1, inf, -inf}, -inf, inf},
		{"NaN alone", []float64{nan}, nan, nan},
		{"NaN first", []float64{odd, 1, -inf}, nan, nan},
		{"NaN between", []float64{1, nan, 0}, nan, nan},
		{"NaN last", []float64{-inf, inf, loud}, nan, nan},
	} {
		is(t, "Min of "+c.name, Min(c.l), c.low)
		is(t, "Max of "+c.name, Max(c.l), c.high)
	}
}

func TestMinMaxOfEdges(t *testing.T) {
	for i, a := range edges[:len(edges)-1] {
		for _, b := range edges[i : len(edges)-1] {
			is(t, "Min", Min([]float64{b, a}), a)
			is(t, "Min", Min([]float64{a, b}), a)
			is(t, "Max", Max([]float64{b, a}), b)
			is(t, "Max", Max([]float64{a, b}), b)
		}
	}
}

func TestDot(t *testing.T) {
	x := 1 + math.Ldexp(1, -27)
	for _, c := range []struct {
		name string
		a, b []float64
		want float64
	}{
		{"none", nil, nil, 0},
		{"none and one", nil, []float64{1}, 0},
		{"one and none", []float64{nan}, nil, 0},
		{"shorter right", []float64{1, 2, 3}, []float64{4, 5}, 14},
		{"shorter left", []float64{1, 2}, []float64{4, 5, nan}, 14},
		{"minus noughts", []float64{minus, 0}, []float64{1, -1}, 0},
		{"product rounded ahead", []float64{-1 - math.Ldexp(1, -26), x}, []float64{1, x}, 0},
		{"too small a product", []float64{math.SmallestNonzeroFloat64}, []float64{0.25}, 0},
		{"in order", []float64{1e16, 1, -1e16}, []float64{1, 1, 1}, 0},
		{"too great a product", []float64{math.MaxFloat64, 1}, []float64{2, 1}, inf},
		{"nought times infinity", []float64{inf}, []float64{0}, nan},
		{"infinities", []float64{inf, inf}, []float64{1, -1}, nan},
		{"NaN", []float64{1, odd}, []float64{1, 2}, nan},
		{"NaN times nought", []float64{0, 1}, []float64{loud, 2}, nan},
	} {
		is(t, "Dot of "+c.name, Dot(c.a, c.b), c.want)
	}
}

func TestDotRoundsEach(t *testing.T) {
	r := rand.New(rand.NewSource(2))
	for range 200 {
		a, b := some(r, r.Intn(20)), some(r, r.Intn(20))
		want := 0.0
		for i := range min(len(a), len(b)) {
			want = addExact(want, mulExact(a[i], b[i]))
		}
		is(t, "Dot", Dot(a, b), want)
	}
}

func TestSortEdges(t *testing.T) {
	r := rand.New(rand.NewSource(3))
	for range 50 {
		l := slices.Clone(edges)
		r.Shuffle(len(l), func(i, j int) { l[i], l[j] = l[j], l[i] })
		sorted := Sort(l)
		if len(sorted) != len(edges) {
			t.Fatal(len(sorted))
		}
		for i, x := range sorted {
			is(t, "Sort", x, edges[i])
		}
	}
	if len(Sort(nil)) != 0 || len(Sort([]float64{})) != 0 {
		t.Error("of none")
	}
}

func TestSortKeepsEach(t *testing.T) {
	r := rand.New(rand.NewSource(4))
	pool := append(slices.Clone(edges), odd, loud)
	for n := range 60 {
		l := make([]float64, n)
		left := map[uint64]int{}
		for i := range l {
			l[i] = pool[r.Intn(len(pool))]
			left[math.Float64bits(l[i])]++
		}
		sorted := Sort(l)
		for i, x := range sorted {
			left[math.Float64bits(x)]--
			if i > 0 && num.Cmp(sorted[i-1], x) > 0 {
				t.Fatal("not in order", sorted)
			}
		}
		for b, count := range left {
			if count != 0 {
				t.Fatalf("%x: %d too few", b, count)
			}
		}
	}
}

func TestRank(t *testing.T) {
	r := rand.New(rand.NewSource(5))
	l := append(slices.Clone(edges), edges...)
	r.Shuffle(len(l), func(i, j int) { l[i], l[j] = l[j], l[i] })
	for i, x := range edges {
		if n := Rank(l, x); n != 2*i {
			t.Error(x, n, 2*i)
		}
	}
	last := len(edges) - 1
	if n := Rank(l, odd); n != 2*last {
		t.Error("a NaN is below another one", n)
	}
	if Rank(l, 2) != Rank(l, 3) || Rank(nil, 1) != 0 || Rank([]float64{}, nan) != 0 || Rank([]float64{odd}, nan) != 0 {
		t.Error("Rank")
	}
}

func TestSpread(t *testing.T) {
	for _, l := range [][]float64{nil, {2, 1}, {0, minus}, {inf, -inf}, {1, odd, 2}, {1e16, 1, -1e16}} {
		least, most, sum, mean := Spread(l)
		is(t, "least", least, Min(l))
		is(t, "most", most, Max(l))
		is(t, "sum", sum, Sum(l))
		is(t, "mean", mean, Mean(l))
	}
	least, most, sum, mean := Spread([]float64{3, 1, 4})
	is(t, "least", least, 1)
	is(t, "most", most, 4)
	is(t, "sum", sum, 8)
	is(t, "mean", mean, 8.0/3)
}

func TestNothingHandedInIsChangedOrKept(t *testing.T) {
	room := []float64{3, nan, 1, minus, 0, -inf, 9, 8, 7}
	was := slices.Clone(room)
	l := room[:6]
	Sum(l)
	Mean(l)
	Min(l)
	Max(l)
	Dot(l, l[:2])
	Rank(l, 1)
	Spread(l)
	sorted := Sort(l)
	for i := range sorted[:cap(sorted)] {
		sorted[:cap(sorted)][i] = 42
	}
	for i, x := range room {
		is(t, "handed in", x, was[i])
	}
	none := Sort(room[:0])
	_ = append(none, 42)
	is(t, "behind an empty list", room[0], 3)
}
