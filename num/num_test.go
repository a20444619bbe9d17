package num

import (
	"math"
	"math/rand"
	"slices"
	"strconv"
	"strings"
	"testing"

	"reliquary/api"
)

var (
	inf    = math.Inf(1)
	nan    = math.NaN()
	nought = math.Copysign(0, -1)
)

// line: one of each kind, and the edges of each, going up.
func line() []float64 {
	return []float64{
		-inf, -math.MaxFloat64, -1e15, -999999999999999, -2, -1.5, -1, -0.5,
		-0x1p-1022, -0x0.fffffffffffffp-1022, -math.SmallestNonzeroFloat64,
		nought, 0,
		math.SmallestNonzeroFloat64, 0x0.fffffffffffffp-1022, 0x1p-1022,
		0.5, 1, 1.5, 2, 999999999999999, 1e15, math.MaxFloat64, inf, nan,
	}
}

// nans: signs and payloads that must not show.
func nans() []float64 {
	var l []float64
	for _, b := range []uint64{0x7ff8000000000000, 0x7ff8000000000001, 0x7ff0000000000001, 0x7fffffffffffffff, 0xfff8000000000000, 0xfff0000000000001, 0xffffffffffffffff} {
		l = append(l, math.Float64frombits(b))
	}
	return l
}

// anyNumber: now any bits, now a small whole one, now one beside an edge.
func anyNumber(r *rand.Rand) float64 {
	switch r.Intn(4) {
	case 0:
		return float64(r.Intn(9) - 4)
	case 1:
		l := line()
		b := math.Float64bits(l[r.Intn(len(l))])
		return math.Float64frombits(b + uint64(r.Intn(3)) - 1)
	case 2:
		return float64(r.Int63n(4e15) - 2e15)
	}
	return math.Float64frombits(r.Uint64())
}

func bitsSame(a, b float64) bool {
	return math.Float64bits(a) == math.Float64bits(b) || a != a && b != b
}

// 3.1: the order, by places in a line that is written down.
func TestCmpOrder(t *testing.T) {
	l := line()
	for i, a := range l {
		for j, b := range l {
			want := 0
			if i < j {
				want = -1
			} else if i > j {
				want = 1
			}
			if got := Cmp(a, b); got != want {
				t.Errorf("Cmp(%v, %v) = %d, want %d", a, b, got, want)
			}
			if got := Same(a, b); got != (i == j) {
				t.Errorf("Same(%v, %v) = %v", a, b, got)
			}
		}
	}
}

func TestAllNaNsAreOne(t *testing.T) {
	for _, a := range nans() {
		for _, b := range nans() {
			if Cmp(a, b) != 0 || !Same(a, b) {
				t.Errorf("%x, %x", math.Float64bits(a), math.Float64bits(b))
			}
		}
		if Cmp(a, inf) != 1 || Cmp(inf, a) != -1 || Cmp(a, -inf) != 1 {
			t.Errorf("%x beside infinities", math.Float64bits(a))
		}
		if c := Code(a); c != math.MaxUint64 {
			t.Errorf("Code of %x: %x", math.Float64bits(a), c)
		}
	}
}

// 3.1: the words themselves, not their order alone.
func TestCodeWords(t *testing.T) {
	for _, x := range []struct {
		x float64
		c uint64
	}{
		{-inf, 0x000fffffffffffff}, {-math.MaxFloat64, 0x0010000000000000},
		{-1, 0x400fffffffffffff}, {-math.SmallestNonzeroFloat64, 0x7ffffffffffffffe},
		{nought, 0x7fffffffffffffff}, {0, 0x8000000000000000},
		{math.SmallestNonzeroFloat64, 0x8000000000000001}, {1, 0xbff0000000000000},
		{math.MaxFloat64, 0xffefffffffffffff}, {inf, 0xfff0000000000000}, {nan, 0xffffffffffffffff},
	} {
		if c := Code(x.x); c != x.c {
			t.Errorf("Code(%v) = %x, want %x", x.x, c, x.c)
		}
		if y := Back(x.c); !bitsSame(y, x.x) {
			t.Errorf("Back(%x) = %v, want %v", x.c, y, x.x)
		}
	}
}

func TestBackOfNoCode(t *testing.T) {
	for _, c := range []uint64{0, 1, 0x0007ffffffffffff, 0x000ffffffffffffe, 0xfff0000000000001, 0xfff8000000000000, 0xfffffffffffffffe, 0xffffffffffffffff} {
		if x := Back(c); !math.IsNaN(x) || math.Float64bits(x) != math.Float64bits(math.NaN()) {
			t.Errorf("Back(%x) = %x", c, math.Float64bits(x))
		}
	}
}

// 3.2
func TestAdd(t *testing.T) {
	for _, x := range []struct {
		a, b, sum float64
		e         api.Errno
	}{
		{1, 2, 3, api.OK}, {1, -1, 0, api.OK}, {-1, 1, 0, api.OK}, {-3, 0.5, -2.5, api.OK},
		{nought, nought, nought, api.OK}, {nought, 0, 0, api.OK}, {0, nought, 0, api.OK}, {0, 0, 0, api.OK},
		{1 << 53, 1, 1 << 53, api.OK}, {1<<53 + 2, 1, 1<<53 + 4, api.OK},
		{0.1, 0.2, 0x1.3333333333334p-2, api.OK},
		{math.MaxFloat64, math.MaxFloat64, inf, api.OK}, {-math.MaxFloat64, -math.MaxFloat64, -inf, api.OK},
		{math.MaxFloat64, 1, math.MaxFloat64, api.OK},
		{-0x1p-1022, math.SmallestNonzeroFloat64, -0x0.fffffffffffffp-1022, api.OK},
		{inf, 1, inf, api.OK}, {inf, inf, inf, api.OK}, {-inf, -inf, -inf, api.OK}, {1, -inf, -inf, api.OK},
		{inf, -inf, 0, api.ErrNaN}, {-inf, inf, 0, api.ErrNaN},
		{nan, 1, 0, api.ErrNaN}, {1, nan, 0, api.ErrNaN}, {nan, nan, 0, api.ErrNaN}, {inf, nan, 0, api.ErrNaN},
	} {
		if sum, e := Add(x.a, x.b); !bitsSame(sum, x.sum) || e != x.e {
			t.Errorf("Add(%v, %v) = %v, %d", x.a, x.b, sum, e)
		}
	}
}

// 3.3
func TestText(t *testing.T) {
	for _, x := range []struct {
		x float64
		s string
	}{
		{nan, "nan"}, {inf, "inf"}, {-inf, "-inf"},
		{0, "0"}, {nought, "-0"}, {3, "3"}, {-3, "-3"}, {10, "10"}, {1e6, "1000000"}, {1e14, "100000000000000"},
		{999999999999999, "999999999999999"}, {-999999999999999, "-999999999999999"},
		{1e15, "0x430c6bf526340000"}, {-1e15, "0xc30c6bf526340000"},
		{0.5, "0x3fe0000000000000"}, {-0.5, "0xbfe0000000000000"}, {1.5, "0x3ff8000000000000"},
		{999999999999998.5, "0x430c6bf52633fff4"},
		{1e300, "0x7e37e43c8800759c"}, {math.MaxFloat64, "0x7fefffffffffffff"},
		{math.SmallestNonzeroFloat64, "0x0000000000000001"}, {-math.SmallestNonzeroFloat64, "0x8000000000000001"},
	} {
		if s := Text(x.x); s != x.s {
			t.Errorf("Text(%v) = %q, want %q", x.x, s, x.s)
		}
		if y, e := Parse(x.s); !bitsSame(y, x.x) || e != api.OK {
			t.Errorf("Parse(%q) = %v, %d", x.s, y, e)
		}
	}
	for _, x := range nans() {
		if s := Text(x); s != "nan" {
			t.Errorf("Text of %x: %q", math.Float64bits(x), s)
		}
	}
}

// 3.3: bits are read of any number, of one that has digits or a name too.
func TestParseBits(t *testing.T) {
	for s, x := range map[string]float64{
		"0x0000000000000000": 0, "0x8000000000000000": nought, "0x3ff0000000000000": 1, "0xc008000000000000": -3,
		"0x7ff0000000000000": inf, "0xfff0000000000000": -inf, "0x430c6bf52633fff8": 999999999999999,
	} {
		if y, e := Parse(s); !bitsSame(y, x) || e != api.OK {
			t.Errorf("Parse(%q) = %v, %d", s, y, e)
		}
	}
	for _, x := range nans() {
		s := "0x" + strconv.FormatUint(math.Float64bits(x), 16)
		if y, e := Parse(s); y != 0 || e != api.ErrForm {
			t.Errorf("Parse(%q) = %v, %d", s, y, e)
		}
	}
}

func TestParseWrong(t *testing.T) {
	for _, s := range []string{
		"", " ", "-", "+", "x", "0x", "3 ", " 3", "\t3", "3\n", "3\x00", "\xff", "٣",
		"03", "00", "-00", "-03", "+0", "+3", "--3", "3-", "3.0", "3.", ".5", "0.5", "1e3", "1_000", "0b1", "0o7", "1,000",
		"1000000000000000", "-1000000000000000", "9007199254740992", "9223372036854775807", "-9223372036854775808", "9223372036854775808",
		"99999999999999999999999999", strings.Repeat("9", 5000), strings.Repeat("0", 5000),
		"NaN", "NAN", "-nan", "+nan", "nan ", "Inf", "INF", "+inf", "--inf", "infinity", "in", "inf0",
		"0X3fe0000000000000", "0x3FE0000000000000", "0x3fE0000000000000", "-0x3fe0000000000000", "0x+fe0000000000000", "0x-fe0000000000000",
		"0x3fe000000000000", "0x3fe00000000000000", "0x3fe000000000000g", "0x3fe0_00000000000", "0x 3fe00000000000", "3fe0000000000000", "0x0x3fe00000000000",
	} {
		if x, e := Parse(s); math.Float64bits(x) != 0 || e != api.ErrForm {
			t.Errorf("Parse(%q) = %v, %d", s, x, e)
		}
	}
}

// 3.4
func TestThereAndBack(t *testing.T) {
	r := rand.New(rand.NewSource(3))
	l := append(line(), nans()...)
	for range 20000 {
		l = append(l, anyNumber(r))
	}
	for _, x := range l {
		if y := Back(Code(x)); !Same(y, x) || !bitsSame(y, x) {
			t.Errorf("Back(Code(%x)) = %x", math.Float64bits(x), math.Float64bits(y))
		}
		if y, e := Parse(Text(x)); e != api.OK || !Same(y, x) || !bitsSame(y, x) {
			t.Errorf("Parse(Text(%x)) = %x, %d", math.Float64bits(x), math.Float64bits(y), e)
		}
	}
}

// rankOf tells the order of 3.1 by groups, without a word of bits.
func rankOf(x float64) int {
	switch {
	case x != x:
		return 3
	case x > 0:
		return 2
	case x == 0 && !math.Signbit(x):
		return 1
	case x == 0:
		return 0
	}
	return -1
}

func TestCodeGoesUpAsCmp(t *testing.T) {
	r := rand.New(rand.NewSource(31))
	for range 20000 {
		a, b := anyNumber(r), anyNumber(r)
		want := rankOf(a) - rankOf(b)
		if want == 0 && a < b {
			want = -1
		} else if want == 0 && a > b {
			want = 1
		}
		want = max(-1, min(1, want))
		if got := Cmp(a, b); got != want {
			t.Fatalf("Cmp(%v, %v) = %d, want %d", a, b, got, want)
		}
		if (Code(a) < Code(b)) != (want < 0) || (Code(a) > Code(b)) != (want > 0) {
			t.Fatalf("Code(%v) = %x, Code(%v) = %x", a, Code(a), b, Code(b))
		}
	}
}

// A word is the Code of one number at most: told back and coded again it is itself, or all bits.
func TestCodeOfBack(t *testing.T) {
	r := rand.New(rand.NewSource(32))
	for range 20000 {
		c := r.Uint64()
		if r.Intn(2) == 0 {
			c = Code(line()[r.Intn(len(line()))]) + uint64(r.Intn(5)) - 2
		}
		x := Back(c)
		if math.IsNaN(x) {
			if c >= 0x000fffffffffffff && c <= 0xfff0000000000000 {
				t.Fatalf("Back(%x) is NaN", c)
			}
		} else if Code(x) != c {
			t.Fatalf("Code(Back(%x)) = %x", c, Code(x))
		}
	}
}

// 3.3, 3.5: of whatever bytes, Parse answers what Text tells or an error, and never panics.
func TestParseAnyBytes(t *testing.T) {
	r := rand.New(rand.NewSource(35))
	const near = "0123456789abcdefx-+naif._ \xff\x00"
	for range 50000 {
		b := []byte(Text(anyNumber(r)))
		for range r.Intn(3) {
			i, c := r.Intn(len(b)+1), near[r.Intn(len(near))]
			switch {
			case r.Intn(2) == 0:
				b = slices.Insert(b, i, c)
			case i < len(b):
				b[i] = c
			}
		}
		s := string(b)
		x, e := Parse(s)
		bits := strings.HasPrefix(s, "0x") && len(s) == 18 && s == strings.ToLower(s)
		if e == api.OK && Text(x) != s && !bits {
			t.Fatalf("Parse(%q) = %v", s, x)
		}
		if e != api.OK && (e != api.ErrForm || math.Float64bits(x) != 0) {
			t.Fatalf("Parse(%q) = %v, %d", s, x, e)
		}
	}
}
