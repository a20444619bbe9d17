package frame

import (
	"bytes"
	"math"
	"math/rand"
	"slices"
	"strconv"
	"strings"
	"testing"

	"reliquary/api"
)

// fed is a Framer that was fed each of the pieces.
func fed(pieces ...string) *Framer {
	f := New()
	for _, p := range pieces {
		f.Feed([]byte(p))
	}
	return f
}

// told is what a call answered, as a text.
func told(f *Framer) string {
	line, ok, e := f.Line()
	switch {
	case ok && e == api.OK:
		return strconv.Quote(line)
	case line == "" && !ok && e == api.OK:
		return "none"
	case line == "" && !ok && e == api.ErrLong:
		return "long"
	}
	return "wrong"
}

func toldPayload(f *Framer, n int) string {
	b, ok := f.Payload(n)
	switch {
	case ok:
		return strconv.Quote(string(b))
	case len(b) == 0:
		return "none"
	}
	return "wrong"
}

// lines asks for lines until there is none.
func lines(f *Framer) []string {
	var all []string
	for {
		t := told(f)
		if t == "none" {
			return all
		}
		all = append(all, t)
	}
}

func TestLine(t *testing.T) {
	for _, c := range []struct {
		came  string
		want  []string
		waits int
	}{
		{"", nil, 0},
		{"a", nil, 1},
		{"a\n", []string{`"a"`}, 0},
		{"a\nb", []string{`"a"`}, 1},
		{"a\nb\n", []string{`"a"`, `"b"`}, 0},
		{"\n\n", []string{`""`, `""`}, 0},
		{"a\r\n", []string{`"a"`}, 0},
		{"a\r\r\n", []string{`"a\r"`}, 0},
		{"\r\n", []string{`""`}, 0},
		{"\r", nil, 1},
		{"\ra\n", []string{`"\ra"`}, 0},
		{"a\r", nil, 2},
		{"a\rb\n\r", []string{`"a\rb"`}, 1},
		{"\x00\xff \t\n", []string{`"\x00\xff \t"`}, 0},
	} {
		f := fed(c.came)
		if got := lines(f); !slices.Equal(got, c.want) || f.Waiting() != c.waits {
			t.Errorf("%q: %v, %d wait", c.came, got, f.Waiting())
		}
	}
}

// TestLong asks for lines that are just as long as may be, and for longer ones.
func TestLong(t *testing.T) {
	most := strings.Repeat("m", api.MaxLine)
	ok := strconv.Quote(most)
	for _, c := range []struct {
		came  string
		want  []string
		waits int
	}{
		{most, nil, 256},
		{most + "\n", []string{ok}, 0},
		{most + "\r", nil, 257},
		{most + "x", nil, 257},
		{most + "\r\n", []string{ok}, 0},
		{most + "x\n", []string{"long"}, 0},
		{most + "\r\r\n", []string{"long"}, 0},
		{most + "\r\r", []string{"long"}, 0},
		{most + "xy", []string{"long"}, 0},
		{most + "x\r", []string{"long"}, 0},
		{most + "x\r\n", []string{"long"}, 0},
		{most + "x\r\n\r\n", []string{"long", `""`}, 0},
		{most + "\rx\na\n", []string{"long", `"a"`}, 0},
		{most + most + most + "\na", []string{"long"}, 1},
		{most + "x\n" + most + "xy\n" + most + "\n" + most, []string{"long", "long", ok}, 256},
	} {
		f := fed(c.came)
		if got := lines(f); !slices.Equal(got, c.want) || f.Waiting() != c.waits {
			t.Errorf("%q: %v, %d wait", c.came, got, f.Waiting())
		}
	}
}

// TestLeaving goes through a line that is being left out: once told, gone as it comes, ended by its line feed alone.
func TestLeaving(t *testing.T) {
	f := fed(strings.Repeat("x", 257))
	for range 3 {
		if got := told(f); got != "none" || f.Waiting() != 257 {
			t.Fatal(got, f.Waiting())
		}
	}
	f.Feed([]byte("x"))
	if f.Waiting() != 258 {
		t.Fatal("nothing is left out until it was told", f.Waiting())
	}
	if got := told(f); got != "long" || f.Waiting() != 0 {
		t.Fatal(got, f.Waiting())
	}
	for _, p := range []string{"", "x", "\r", strings.Repeat("x", 999)} {
		f.Feed([]byte(p))
		if got := told(f); got != "none" || f.Waiting() != 0 {
			t.Fatalf("%q: %s, %d wait", p, got, f.Waiting())
		}
		if got := toldPayload(f, 0); got != "none" {
			t.Fatal(got)
		}
	}
	f.Feed([]byte("x\n"))
	if got := told(f); got != "none" || f.Waiting() != 0 {
		t.Fatal(got, f.Waiting())
	}
	f.Feed([]byte("a\n"))
	if got := told(f); got != `"a"` {
		t.Fatal(got)
	}
	// the end of one, and a short and a long one behind it, in one piece
	f = fed(strings.Repeat("x", 258))
	told(f)
	f.Feed([]byte("x\na\n" + strings.Repeat("y", 300)))
	if got := lines(f); !slices.Equal(got, []string{`"a"`, "long"}) || f.Waiting() != 0 {
		t.Fatal(got, f.Waiting())
	}
	f.Feed([]byte("\nb\n"))
	if got := lines(f); !slices.Equal(got, []string{`"b"`}) {
		t.Fatal(got)
	}
}

func TestPayload(t *testing.T) {
	for _, c := range []struct {
		came  string
		n     int
		want  string
		waits int
	}{
		{"", 0, "none", 0},
		{"\n", 0, `""`, 0},
		{"a", 0, `""`, 1},
		{"\n", -1, `""`, 0},
		{"a\n", math.MinInt, `""`, 2},
		{"ab", 2, "none", 2},
		{"ab\n", 2, `"ab"`, 0},
		{"ab\n", 3, "none", 3},
		{"ab\n\n", 2, `"ab"`, 1},
		{"a\nb\nc", 3, `"a\nb"`, 1},
		{"abc", 2, `"ab"`, 1},
		{"ab\r\n", 2, `"ab"`, 2},
		{"ab", 9, "none", 2},
		{"ab\n", math.MaxInt, "none", 3},
		{"ab\n", math.MaxInt - 1, "none", 3},
		{strings.Repeat("x", 999) + "\n", 999, strconv.Quote(strings.Repeat("x", 999)), 0},
	} {
		f := fed(c.came)
		if got := toldPayload(f, c.n); got != c.want || f.Waiting() != c.waits {
			t.Errorf("%q %d: %s, %d wait", c.came, c.n, got, f.Waiting())
		}
	}
	// a byte that stays is the next line's first
	f := fed("abc\nd\n")
	if got := toldPayload(f, 2); got != `"ab"` {
		t.Error(got)
	}
	if got := lines(f); !slices.Equal(got, []string{`"c"`, `"d"`}) {
		t.Error(got)
	}
}

func TestSkip(t *testing.T) {
	f := fed("abcdef\n")
	f.Skip(0)
	f.Skip(-1)
	f.Skip(math.MinInt)
	if f.Waiting() != 7 {
		t.Error(f.Waiting())
	}
	f.Skip(2)
	if f.Waiting() != 5 {
		t.Error(f.Waiting())
	}
	f.Skip(1)
	if got := told(f); got != `"def"` {
		t.Error(got)
	}
	// ahead of what is there, several that add up, line feeds too
	f = fed("ab")
	f.Skip(3)
	f.Skip(-5)
	f.Skip(2)
	f.Skip(1)
	if f.Waiting() != 0 {
		t.Error(f.Waiting())
	}
	for _, p := range []string{"c", "\nd"} {
		f.Feed([]byte(p))
		if got := told(f); got != "none" || f.Waiting() != 0 {
			t.Error(got, f.Waiting())
		}
	}
	f.Feed([]byte("ef\ng"))
	if f.Waiting() != 3 {
		t.Error(f.Waiting())
	}
	if got := told(f); got != `"f"` || f.Waiting() != 1 {
		t.Error(got, f.Waiting())
	}
}

// TestSkipBehindLong leaves out bytes behind the end of a line that is being left out.
func TestSkipBehindLong(t *testing.T) {
	f := fed(strings.Repeat("x", 258))
	if got := told(f); got != "long" {
		t.Fatal(got)
	}
	f.Skip(2)
	f.Feed([]byte("xxxx"))
	f.Skip(1)
	f.Feed([]byte("xx\n1"))
	if f.Waiting() != 0 {
		t.Error(f.Waiting())
	}
	f.Feed([]byte("\n3\n"))
	if got := told(f); got != `""` || f.Waiting() != 0 {
		t.Error(got, f.Waiting())
	}
	// one whose end is there is gone with it: nothing is ahead of the skip
	f = fed(strings.Repeat("x", 257) + "\n12a\n")
	told(f)
	f.Skip(2)
	if got := told(f); got != `"a"` {
		t.Error(got)
	}
	// one that was not told yet is skipped as all that waits
	f = fed(strings.Repeat("x", 258))
	f.Skip(258)
	f.Feed([]byte("a\n"))
	if got := told(f); got != `"a"` {
		t.Error(got)
	}
}

// TestSkipMost adds up to the greatest int, and no further.
func TestSkipMost(t *testing.T) {
	for _, c := range [][]int{{math.MaxInt, math.MaxInt}, {math.MaxInt, 1}, {1, math.MaxInt}, {math.MaxInt - 1, 1, 1}} {
		f := New()
		for _, n := range c {
			f.Skip(n)
		}
		f.Feed([]byte("line\n"))
		if got := told(f); got != "none" || f.Waiting() != 0 {
			t.Error(c, got, f.Waiting())
		}
	}
}

// TestWaiting follows what waits behind each call.
func TestWaiting(t *testing.T) {
	f := New()
	waits := func(want int) {
		t.Helper()
		if f.Waiting() != want {
			t.Errorf("%d wait, not %d", f.Waiting(), want)
		}
	}
	waits(0)
	f.Feed(nil)
	waits(0)
	f.Feed([]byte("ab\r\nc"))
	waits(5)
	f.Line()
	waits(1)
	f.Line()
	waits(1)
	f.Payload(1)
	waits(1)
	f.Feed([]byte("\nxyz"))
	waits(5)
	f.Payload(1)
	waits(3)
	f.Payload(1)
	waits(2)
	f.Skip(1)
	waits(1)
	f.Skip(2)
	waits(0)
	f.Feed([]byte("qr"))
	waits(1)
}

// plain is a Framer by the words of the document alone: all that came, and what is still to be left out.
type plain struct {
	came    string
	leaving bool
	skip    int
}

func (p *plain) feed(b string) {
	p.came += b
	if p.leaving {
		_, behind, found := strings.Cut(p.came, "\n")
		p.came, p.leaving = behind, !found
	}
	n := min(p.skip, len(p.came))
	p.came, p.skip = p.came[n:], p.skip-n
}

func (p *plain) line() string {
	line, behind, found := strings.Cut(p.came, "\n")
	if found {
		p.came = behind
		if line = strings.TrimSuffix(line, "\r"); len(line) > 256 {
			return "long"
		}
		return strconv.Quote(line)
	}
	if len(p.came) >= 258 {
		p.came, p.leaving = "", true
		return "long"
	}
	return "none"
}

func (p *plain) payload(n int) string {
	n = max(n, 0)
	if len(p.came) < n+1 {
		return "none"
	}
	b := p.came[:n]
	p.came = strings.TrimPrefix(p.came[n:], "\n")
	return strconv.Quote(b)
}

func (p *plain) omit(n int) {
	n = max(n, 0)
	now := min(n, len(p.came))
	p.came, p.skip = p.came[now:], p.skip+n-now
}

// someBytes are bytes among which lines of all lengths are.
func someBytes(r *rand.Rand) string {
	switch r.Intn(6) {
	case 0:
		return strings.Repeat("x", 250+r.Intn(12))
	case 1:
		return "\r\n"
	case 2:
		return "\n"
	case 3:
		return ""
	case 4:
		b := make([]byte, r.Intn(20))
		r.Read(b)
		return string(b)
	}
	return strings.Repeat("y", r.Intn(9)) + "\n"
}

// TestByItsWords holds a Framer against the document's words, call by call.
func TestByItsWords(t *testing.T) {
	for seed := range int64(300) {
		r := rand.New(rand.NewSource(seed))
		f, p := New(), &plain{}
		for step := range 300 {
			var got, want string
			switch r.Intn(8) {
			case 0, 1, 2:
				b := someBytes(r)
				f.Feed([]byte(b))
				p.feed(b)
			case 3, 4, 5:
				got, want = told(f), p.line()
			case 6:
				n := r.Intn(30) - 2
				got, want = toldPayload(f, n), p.payload(n)
			case 7:
				n := r.Intn(30) - 15
				f.Skip(n)
				p.omit(n)
			}
			if got != want || f.Waiting() != len(p.came) {
				t.Fatal(seed, step, got, want, f.Waiting(), len(p.came))
			}
		}
	}
}

// asks cuts text at random, and makes the same demands, each as often as it takes until it is answered.
func asks(r *rand.Rand, text string, most int, demands []int) []string {
	f := New()
	var all []string
	for len(demands) > 0 {
		d, got := demands[0], ""
		switch {
		case d < 0:
			f.Skip(-d)
			got = "skipped"
		case d > 0:
			got = toldPayload(f, d-1)
		default:
			got = told(f)
		}
		if got != "none" {
			all, demands = append(all, got), demands[1:]
			continue
		}
		if text == "" {
			return all
		}
		n := min(1+r.Intn(most), len(text))
		f.Feed([]byte(text[:n]))
		text = text[n:]
	}
	return all
}

// TestWhateverThePieces tells the same out of pieces of all sizes.
func TestWhateverThePieces(t *testing.T) {
	for seed := range int64(60) {
		r := rand.New(rand.NewSource(seed))
		var text strings.Builder
		for range 60 {
			text.WriteString(someBytes(r))
		}
		demands := make([]int, 60)
		for i := range demands {
			if r.Intn(3) == 0 {
				demands[i] = r.Intn(60) - 20
			}
		}
		want := asks(r, text.String(), 1, demands)
		for _, most := range []int{1, 2, 3, 17, 258, 1000, 99999} {
			if got := asks(r, text.String(), most, demands); !slices.Equal(got, want) {
				t.Fatal(seed, most, got, want)
			}
		}
	}
}

// TestOwnMemory changes what was handed in and what was told.
func TestOwnMemory(t *testing.T) {
	in := append(make([]byte, 0, 64), "a\nbcd\nef\n"...)
	f := New()
	f.Feed(in)
	f.Feed(in[:0])
	clear(in[:cap(in)])
	if got := told(f); got != `"a"` {
		t.Error(got)
	}
	b, _ := f.Payload(3)
	b = b[:cap(b)]
	for i := range b {
		b[i] = '!'
	}
	if got := told(f); got != `"ef"` {
		t.Error(got)
	}
	in = append(in[:0], "gh\n"...)
	f.Feed(in[:1])
	if string(in) != "gh\n" {
		t.Errorf("%q", in)
	}
}

// TestManyLines has great amounts, at once and in bytes: no call may go through all that waits.
func TestManyLines(t *testing.T) {
	const n = 300000
	f := fed(strings.Repeat("ab\n", n))
	for i := range n {
		if line, ok, _ := f.Line(); line != "ab" || !ok {
			t.Fatal(i, line, ok)
		}
	}
	f.Feed(bytes.Repeat([]byte("x"), n))
	f.Skip(1)
	for i := range n - 1 {
		if got := toldPayload(f, 0); got != `""` || f.Waiting() != n-1 {
			t.Fatal(i, got)
		}
		if got := toldPayload(f, n); got != "none" {
			t.Fatal(i, got)
		}
	}
	told(f)
	for range n {
		f.Feed([]byte("x"))
		told(f)
	}
	if f.Waiting() != 0 || cap(f.came) > 64 {
		t.Error(f.Waiting(), cap(f.came))
	}
}

// TestHoldsLittle asks that what is taken is not held on to.
func TestHoldsLittle(t *testing.T) {
	f := fed(strings.Repeat("x", 100000) + "\nend")
	if got := told(f); got != "long" || f.Waiting() != 3 {
		t.Fatal(got, f.Waiting())
	}
	if cap(f.came) > 64 {
		t.Error(cap(f.came))
	}
	for range 100000 {
		f.Feed([]byte("abcdefg\n"))
		if got := told(f); got == "none" {
			t.Fatal(got)
		}
	}
	if cap(f.came) > 1024 {
		t.Error(cap(f.came))
	}
}
