package lines

import (
	"math"
	"strconv"
	"strings"
	"testing"
)

// What words may be is said by 18.1 and 19.2.

func TestIsName(t *testing.T) {
	for b := range 256 {
		one := string([]byte{byte(b)})
		for _, s := range []string{one, one + "x", "x" + one + "x", "x" + one} {
			if got := IsName(s); got != (b >= 33 && b <= 126) {
				t.Errorf("%q: %v", s, got)
			}
		}
	}
	for _, n := range []int{0, 1, 63, 64, 65, 1000} {
		if got := IsName(strings.Repeat("n", n)); got != (n >= 1 && n <= 64) {
			t.Error(n, got)
		}
	}
}

func TestNumber(t *testing.T) {
	for _, n := range []int{0, 1, 9, 10, 1025, 999999999} {
		if got, ok := Number(strconv.Itoa(n)); got != n || !ok || !IsNumber(n) {
			t.Error(n, got, ok)
		}
	}
	for _, n := range []int{-1, 1000000000, 1 << 32, math.MinInt, math.MaxInt} {
		if got, ok := Number(strconv.Itoa(n)); got != 0 || ok || IsNumber(n) {
			t.Error(n, got, ok)
		}
	}
	for _, w := range []string{"", " ", "00", "01", "+1", "-0", "1 ", " 1", "1.0", "0x1", "1_000", "x", "inf", "١", "18446744073709551617"} {
		if got, ok := Number(w); got != 0 || ok {
			t.Errorf("%q: %d %v", w, got, ok)
		}
	}
}

// TestWords takes words of each sort, to the end.
func TestWords(t *testing.T) {
	w := Of("GET a 7 -0 nan")
	if w.Next() != "GET" || w.Name() != "a" || w.Number() != 7 || w.Done() {
		t.Error(w)
	}
	if x := w.Score(); x != 0 || !math.Signbit(x) || !w.Right() || w.Done() {
		t.Error(x)
	}
	if x := w.Score(); !math.IsNaN(x) || !w.Right() || !w.Done() {
		t.Error(x)
	}
}

// TestWrongWords: a line stays wrong, and beside what is wrong nothing is told.
func TestWrongWords(t *testing.T) {
	for _, line := range []string{"", " ", "x", " 1", "\t1", "01", "1.5", "é", "0x7ff8000000000000"} {
		a, b := Of(line), Of(line)
		if n, x := a.Number(), b.Score(); n != 0 || x != 0 || a.Right() || b.Right() || a.Done() || b.Done() {
			t.Errorf("%q: %d %v", line, n, x)
		}
	}
	for _, line := range []string{"", " ", " a", "a\tb", "é", strings.Repeat("n", 65)} {
		w := Of(line)
		if s := w.Name(); s != "" || w.Right() {
			t.Errorf("%q: %q", line, s)
		}
	}
	w := Of("01 1")
	w.Number()
	if n := w.Number(); n != 1 || w.Right() || w.Done() {
		t.Error(n)
	}
}

// TestBlanks: a blank ahead, behind or too many makes a word of no bytes, and the end is told once.
func TestBlanks(t *testing.T) {
	for line, want := range map[string][]string{"": {""}, "a": {"a"}, "a b": {"a", "b"}, " a": {"", "a"}, "a ": {"a", ""}, "a  b": {"a", "", "b"}, " ": {"", ""}} {
		w := Of(line)
		for i, s := range want {
			if w.Done() {
				t.Errorf("%q: done ahead of %d", line, i)
			}
			if got := w.Next(); got != s {
				t.Errorf("%q: %q, not %q", line, got, s)
			}
		}
		if !w.Done() || w.Next() != "" {
			t.Errorf("%q: more", line)
		}
	}
}

func TestAsk(t *testing.T) {
	w := Of("a")
	w.Next()
	w.Ask(true)
	if !w.Done() {
		t.Error("not done")
	}
	w.Ask(false)
	w.Ask(true)
	if w.Right() || w.Done() {
		t.Error("right again")
	}
}
