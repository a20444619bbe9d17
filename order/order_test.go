package order

import (
	"math"
	"math/rand"
	"slices"
	"strings"
	"testing"

	"reliquary/api"
	"reliquary/num"
)

var (
	inf   = math.Inf(1)
	nan   = math.NaN()
	minus = math.Copysign(0, -1)
)

// panicked tells whether f panicked.
func panicked(f func()) (p bool) {
	defer func() {
		p = recover() != nil
	}()
	f()
	return false
}

// bitsSame holds minus nought apart from nought, and all NaNs as one.
func bitsSame(a, b float64) bool {
	return math.Float64bits(a) == math.Float64bits(b) || a != a && b != b
}

// edgeBytes: those that mean something in a code, and their neighbours.
const edgeBytes = "\x00\x01\x02\x7f\x80\xfe\xff"

// shortTexts: all texts of at most n of the edge bytes.
func shortTexts(n int) []string {
	l := []string{""}
	from := 0
	for range n {
		to := len(l)
		for _, s := range l[from:to] {
			for i := range len(edgeBytes) {
				l = append(l, s+edgeBytes[i:i+1])
			}
		}
		from = to
	}
	return l
}

// anyText: edge bytes mostly, so that codes lie close to each other.
func anyText(r *rand.Rand, most int) string {
	b := make([]byte, r.Intn(most+1))
	for i := range b {
		if r.Intn(3) == 0 {
			b[i] = byte(r.Intn(256))
			continue
		}
		b[i] = edgeBytes[r.Intn(len(edgeBytes))]
	}
	return string(b)
}

// scores: one of each kind, and the edges of each, going up.
func scores() []float64 {
	return []float64{
		-inf, -math.MaxFloat64, -1e15, -2, -1.5, -1, -0x1p-1022, -math.SmallestNonzeroFloat64,
		minus, 0,
		math.SmallestNonzeroFloat64, 0x1p-1022, 0.5, 1, 1.5, 2, 1e15, math.MaxFloat64, inf, nan,
	}
}

func anyScore(r *rand.Rand) float64 {
	switch r.Intn(3) {
	case 0:
		return float64(r.Intn(9) - 4)
	case 1:
		l := scores()
		return l[r.Intn(len(l))]
	}
	return math.Float64frombits(r.Uint64())
}

// 13.1: the bytes themselves.
func TestTextBytes(t *testing.T) {
	for s, want := range map[string]string{
		"":                 "\x00\x01",
		"a":                "\x61\x00\x01",
		"ab":               "ab\x00\x01",
		"\x00":             "\x00\xff\x00\x01",
		"\x00\x00":         "\x00\xff\x00\xff\x00\x01",
		"\x00\x01":         "\x00\xff\x01\x00\x01",
		"\x00\xff":         "\x00\xff\xff\x00\x01",
		"\x01":             "\x01\x00\x01",
		"\xff":             "\xff\x00\x01",
		"a\x00b":           "a\x00\xffb\x00\x01",
		"a\x00":            "a\x00\xff\x00\x01",
		"é":                "\xc3\xa9\x00\x01",
		"\xff\x00\xff\x00": "\xff\x00\xff\xff\x00\xff\x00\x01",
	} {
		if got := Text(s); got != want {
			t.Errorf("Text(%q) = %q, want %q", s, got, want)
		}
	}
}

// 13.1, W8: whatever is behind a code is told as it is.
func TestTakeWhatTextTold(t *testing.T) {
	rests := []string{"", "\x00", "\x01", "\xff", "\x00\x01", "\x00\xff", "rest", strings.Repeat("\x00", 9)}
	for _, s := range shortTexts(3) {
		for _, rest := range rests {
			got, behind, e := Take(Text(s) + rest)
			if got != s || behind != rest || e != api.OK {
				t.Errorf("%q, %q: %q, %q, %d", s, rest, got, behind, e)
			}
		}
	}
}

// 13.1: several texts, one behind the other.
func TestTakeOneByOne(t *testing.T) {
	r := rand.New(rand.NewSource(131))
	for range 2000 {
		parts := make([]string, r.Intn(6))
		b := ""
		for i := range parts {
			parts[i] = anyText(r, 12)
			b += Text(parts[i])
		}
		for i, want := range parts {
			s, rest, e := Take(b)
			if s != want || e != api.OK {
				t.Fatalf("part %d of %q: %q, %d", i, parts, s, e)
			}
			b = rest
		}
		if b != "" {
			t.Fatalf("%q behind %q", b, parts)
		}
	}
}

func TestTakeWrong(t *testing.T) {
	for s, want := range map[string]api.Errno{
		"": api.ErrTorn, "a": api.ErrTorn, "\x01": api.ErrTorn, "\xff": api.ErrTorn,
		"\x00": api.ErrTorn, "a\x00": api.ErrTorn, "\x00\xff": api.ErrTorn, "\x00\xff\x00": api.ErrTorn,
		"\x00\xff\x01": api.ErrTorn, "\x00\xff\xff": api.ErrTorn, "abc\x00\xff\x00\xff": api.ErrTorn,
		"\x00\x00": api.ErrForm, "\x00\x02": api.ErrForm, "\x00\xfe": api.ErrForm, "\x00a": api.ErrForm,
		"\x00\x00\x01": api.ErrForm, "a\x00\x02": api.ErrForm, "a\x00\x02\x00\x01": api.ErrForm,
		"\x00\xff\x00\x00\x01": api.ErrForm, "\x00\xff\x00\xfe\x00\x01": api.ErrForm,
	} {
		if got, rest, e := Take(s); got != "" || rest != "" || e != want {
			t.Errorf("Take(%q) = %q, %q, %d, want %d", s, got, rest, e, want)
		}
	}
}

// 13.1: of all bytes behind a nought two alone mean something.
func TestTakeAllBytesBehindNought(t *testing.T) {
	for c := range 256 {
		b := "a\x00" + string([]byte{byte(c)}) + "\x00\x01z"
		s, rest, e := Take(b)
		switch c {
		case 1:
			if s != "a" || rest != "\x00\x01z" || e != api.OK {
				t.Errorf("%d: %q, %q, %d", c, s, rest, e)
			}
		case 255:
			if s != "a\x00" || rest != "z" || e != api.OK {
				t.Errorf("%d: %q, %q, %d", c, s, rest, e)
			}
		default:
			if s != "" || rest != "" || e != api.ErrForm {
				t.Errorf("%d: %q, %q, %d", c, s, rest, e)
			}
		}
	}
}

// 13.1, W8: what Take tells leads back to the bytes it was given; what it
// refuses is no code's beginning.
func TestTakeOfAnyBytes(t *testing.T) {
	l := shortTexts(5)
	r := rand.New(rand.NewSource(132))
	for range 20000 {
		l = append(l, anyText(r, 20))
	}
	ok, torn, form := 0, 0, 0
	for _, b := range l {
		s, rest, e := Take(b)
		switch e {
		case api.OK:
			ok++
			if Text(s)+rest != b {
				t.Fatalf("Take(%q) = %q, %q", b, s, rest)
			}
		case api.ErrTorn:
			torn++
			if !mendable(b) {
				t.Fatalf("Take(%q): torn, but no end mends it", b)
			}
		case api.ErrForm:
			form++
			ahead, _, ends := strings.Cut(b, endCode)
			if mendable(b) || ends && plain(ahead) {
				t.Fatalf("Take(%q): ill, but it is a code's beginning", b)
			}
		default:
			t.Fatalf("Take(%q): %d", b, e)
		}
	}
	if ok < 1000 || torn < 1000 || form < 1000 {
		t.Errorf("too few of a kind: %d, %d, %d", ok, torn, form)
	}
}

// plain asks whether each nought of b is one that is meant.
func plain(b string) bool {
	return !strings.Contains(strings.ReplaceAll(b, noughtCode, ""), noughtByte)
}

// mendable asks whether b is the beginning of a code that ends behind b.
func mendable(b string) bool {
	return plain(strings.TrimSuffix(b, noughtByte))
}

// 13.1, 3.1: the bytes themselves.
func TestScoreBytes(t *testing.T) {
	for _, x := range []struct {
		x float64
		b string
	}{
		{-inf, "\x00\x0f\xff\xff\xff\xff\xff\xff"}, {-1, "\x40\x0f\xff\xff\xff\xff\xff\xff"},
		{minus, "\x7f\xff\xff\xff\xff\xff\xff\xff"}, {0, "\x80\x00\x00\x00\x00\x00\x00\x00"},
		{math.SmallestNonzeroFloat64, "\x80\x00\x00\x00\x00\x00\x00\x01"}, {1, "\xbf\xf0\x00\x00\x00\x00\x00\x00"},
		{math.Float64frombits(0x0102030405060708), "\x81\x02\x03\x04\x05\x06\x07\x08"},
		{inf, "\xff\xf0\x00\x00\x00\x00\x00\x00"}, {nan, "\xff\xff\xff\xff\xff\xff\xff\xff"},
		{math.Float64frombits(0xfff8000000000001), "\xff\xff\xff\xff\xff\xff\xff\xff"},
	} {
		if b := Score(x.x); b != x.b {
			t.Errorf("Score(%v) = %x, want %x", x.x, b, x.b)
		}
		for _, rest := range []string{"", "\x00", "\xff", "rest", x.b} {
			y, behind, e := TakeScore(x.b + rest)
			if !bitsSame(y, x.x) || behind != rest || e != api.OK {
				t.Errorf("TakeScore(%x, %q) = %v, %q, %d", x.b, rest, y, behind, e)
			}
		}
	}
}

func TestTakeScoreWrong(t *testing.T) {
	full := Score(nan)
	for n := range len(full) {
		for _, b := range []string{full[:n], Score(1)[:n], Score(-inf)[:n], strings.Repeat("\x00", n)} {
			if x, rest, e := TakeScore(b); !bitsSame(x, 0) || rest != "" || e != api.ErrTorn {
				t.Errorf("TakeScore(%x) = %v, %q, %d", b, x, rest, e)
			}
			if x, name, e := Parts(b); !bitsSame(x, 0) || name != "" || e != api.ErrTorn {
				t.Errorf("Parts(%x) = %v, %q, %d", b, x, name, e)
			}
		}
	}
	for _, b := range []string{
		"\x00\x00\x00\x00\x00\x00\x00\x00", "\x00\x00\x00\x00\x00\x00\x00\x01", "\x00\x07\xff\xff\xff\xff\xff\xff",
		"\x00\x0f\xff\xff\xff\xff\xff\xfe", "\xff\xf0\x00\x00\x00\x00\x00\x01", "\xff\xf8\x00\x00\x00\x00\x00\x00",
		"\xff\xff\xff\xff\xff\xff\xff\xfe",
	} {
		for _, rest := range []string{"", "a", "\x00", "rest of some length"} {
			if x, behind, e := TakeScore(b + rest); !bitsSame(x, 0) || behind != "" || e != api.ErrForm {
				t.Errorf("TakeScore(%x, %q) = %v, %q, %d", b, rest, x, behind, e)
			}
			if x, name, e := Parts(b + rest); !bitsSame(x, 0) || name != "" || e != api.ErrForm {
				t.Errorf("Parts(%x, %q) = %v, %q, %d", b, rest, x, name, e)
			}
		}
	}
}

// 13.1, W7: of the bytes that TakeScore reads, each is what Score tells.
func TestTakeScoreOfAnyBytes(t *testing.T) {
	r := rand.New(rand.NewSource(133))
	ok, form := 0, 0
	for range 40000 {
		b := anyText(r, 12)
		x, rest, e := TakeScore(b)
		switch {
		case len(b) < 8:
			if !bitsSame(x, 0) || rest != "" || e != api.ErrTorn {
				t.Fatalf("TakeScore(%x) = %v, %q, %d", b, x, rest, e)
			}
		case e == api.OK:
			ok++
			if Score(x)+rest != b {
				t.Fatalf("TakeScore(%x) = %v, %q", b, x, rest)
			}
		default:
			form++
			high := b[:8]
			if e != api.ErrForm || Score(-inf) <= high && high <= Score(inf) || high == Score(nan) {
				t.Fatalf("TakeScore(%x): %d", b, e)
			}
		}
	}
	if ok < 1000 || form < 100 {
		t.Errorf("too few of a kind: %d, %d", ok, form)
	}
}

// 13.1, W7, W8
func TestKeyAndParts(t *testing.T) {
	names := append(shortTexts(2), "name", strings.Repeat("n", 64), strings.Repeat("\xff", 72), strings.Repeat("long", 3000))
	for _, x := range scores() {
		for _, name := range names {
			k := Key(x, name)
			if k != Score(x)+name {
				t.Errorf("Key(%v, %q) = %x", x, name, k)
			}
			y, n, e := Parts(k)
			if name == "" {
				if !bitsSame(y, 0) || n != "" || e != api.ErrForm {
					t.Errorf("Parts of no name: %v, %q, %d", y, n, e)
				}
				continue
			}
			if !bitsSame(y, x) || n != name || e != api.OK {
				t.Errorf("Parts(Key(%v, %q)) = %v, %q, %d", x, name, y, n, e)
			}
		}
	}
}

func TestNext(t *testing.T) {
	for k, want := range map[string]string{
		"ab": "ac", "a": "b", "\x00": "\x01", "\xfe": "\xff", "\xfe\xff": "\xff", "a\xff": "b", "a\xff\xff": "b",
		"a\x00": "a\x01", "a\xfe": "a\xff", "\xff\xfe": "\xff\xff", "\xff\x00\xff": "\xff\x01", "\xff\xffa": "\xff\xffb",
		"\x00\xff\xff\xff": "\x01", "\x7f": "\x80", "a\x7f\xff": "a\x80", strings.Repeat("z", 5000): strings.Repeat("z", 4999) + "{",
	} {
		if got, ok := Next(k); got != want || !ok {
			t.Errorf("Next(%q) = %q, %v, want %q", k, got, ok, want)
		}
	}
	for _, k := range []string{"", "\xff", "\xff\xff", strings.Repeat("\xff", 5000)} {
		if got, ok := Next(k); got != "" || ok {
			t.Errorf("Next(%q) = %q, %v", k, got, ok)
		}
	}
}

// 13.1: above all that begin with k, and nothing that is above them is less.
func TestNextIsTheLeast(t *testing.T) {
	l := shortTexts(4)
	slices.Sort(l)
	for _, k := range shortTexts(3) {
		next, ok := Next(k)
		for _, s := range l {
			begins := strings.HasPrefix(s, k)
			above := s > k && !begins
			switch {
			case !ok && above:
				t.Fatalf("Next(%q) is none, but %q stands above", k, s)
			case ok && begins && s >= next:
				t.Fatalf("Next(%q) = %q, but %q begins so", k, next, s)
			case ok && above && s < next:
				t.Fatalf("Next(%q) = %q, but %q is less", k, next, s)
			}
		}
	}
}

// 13.2: texts stand as their codes do, whatever follows.
func TestTextsStandAsTheirCodes(t *testing.T) {
	l := shortTexts(3)
	follow := []string{"", "\x00", "\xff", "\xff\xff\xff", "a"}
	for i, a := range l {
		for j, b := range l {
			want := strings.Compare(a, b)
			x, y := Text(a), Text(b)
			if strings.Compare(x, y) != want {
				t.Fatalf("%q, %q", a, b)
			}
			if want == 0 {
				continue
			}
			x += follow[i%len(follow)]
			y += follow[j%len(follow)]
			if strings.Compare(x, y) != want {
				t.Fatalf("%q, %q, and what follows", a, b)
			}
		}
	}
}

// 13.2: keys of two texts stand by the first, then by the second.
func TestTwoTextsStandPartByPart(t *testing.T) {
	r := rand.New(rand.NewSource(134))
	for range 20000 {
		a, b := anyText(r, 3), anyText(r, 3)
		c, d := anyText(r, 3), anyText(r, 3)
		want := strings.Compare(a, c)
		if want == 0 {
			want = strings.Compare(b, d)
		}
		if strings.Compare(Text(a)+Text(b), Text(c)+Text(d)) != want {
			t.Fatalf("%q %q, %q %q", a, b, c, d)
		}
	}
}

// 13.2, W7: keys stand by score, as num holds scores, then by name.
func TestKeysStandByScoreThenName(t *testing.T) {
	r := rand.New(rand.NewSource(135))
	for range 40000 {
		x, y := anyScore(r), anyScore(r)
		a, b := anyText(r, 3), anyText(r, 3)
		want := num.Cmp(x, y)
		if want == 0 {
			want = strings.Compare(a, b)
		}
		if strings.Compare(Key(x, a), Key(y, b)) != want {
			t.Fatalf("%v %q, %v %q", x, a, y, b)
		}
	}
	last := ""
	for _, x := range scores() {
		for _, name := range []string{"", "\x00", "a", "a\x00", "b", "\xff", "\xff\xff"} {
			k := Key(x, name)
			if k <= last {
				t.Errorf("%v %q: %x behind %x", x, name, k, last)
			}
			last = k
		}
	}
}

// 13.2: all keys of one score lie from Score on and ahead of its Next.
func TestKeysOfOneScore(t *testing.T) {
	for i, x := range scores() {
		next, ok := Next(Score(x))
		if ok == (i == len(scores())-1) {
			t.Errorf("Next(Score(%v)): %v", x, ok)
		}
		for j, y := range scores() {
			for _, name := range []string{"\x00", "a", "\xff\xff\xff"} {
				k := Key(y, name)
				within := k >= Score(x) && (!ok || k < next)
				if within != (i == j) {
					t.Errorf("%v, %v %q", x, y, name)
				}
			}
		}
	}
}

// 13.3
func TestNoCallPanics(t *testing.T) {
	r := rand.New(rand.NewSource(136))
	l := shortTexts(3)
	for range 3000 {
		l = append(l, anyText(r, 30))
	}
	l = append(l, strings.Repeat("\x00", 1<<16), strings.Repeat("\xff", 1<<16), strings.Repeat("\x00\xff", 1<<16))
	for _, s := range l {
		x := anyScore(r)
		if panicked(func() {
			Text(s)
			Take(s)
			Score(x)
			TakeScore(s)
			Key(x, s)
			Parts(s)
			Next(s)
		}) {
			t.Errorf("%q, %v", s, x)
		}
	}
}

// W11: time goes with the length alone.
func TestLongTexts(t *testing.T) {
	for _, s := range []string{strings.Repeat("\x00", 1<<22), strings.Repeat("\xff", 1<<22), strings.Repeat("ab\x00", 1<<20)} {
		got, rest, e := Take(Text(s) + s)
		if got != s || rest != s || e != api.OK {
			t.Errorf("%d bytes: %d, %d, %d", len(s), len(got), len(rest), e)
		}
		if _, name, e := Parts(Key(1, s)); name != s || e != api.OK {
			t.Errorf("%d bytes: %d, %d", len(s), len(name), e)
		}
	}
}
