package parse

import (
	"math"
	"math/rand"
	"regexp"
	"strconv"
	"strings"
	"testing"
	"unsafe"

	"reliquary/api"
	"reliquary/num"
)

var (
	inf    = math.Inf(1)
	nan    = math.NaN()
	nought = math.Copysign(0, -1)
)

// longest is a name as long as may be.
var longest = strings.Repeat("n", 64)

// alike holds commands against each other to the bit.
func alike(a, b Command) bool {
	same := math.Float64bits(a.A) == math.Float64bits(b.A) && math.Float64bits(a.B) == math.Float64bits(b.B)
	a.A, a.B, b.A, b.B = 0, 0, 0, 0
	return same && a == b
}

// reads asks for the command of s.
func reads(t *testing.T, s string, want Command) {
	t.Helper()
	if c, e := Line(s); !alike(c, want) || e != api.OK {
		t.Errorf("%q: %+v %d, not %+v", s, c, e, want)
	}
}

// wrong asks that s is no command, and that nothing is told beside the error.
func wrong(t *testing.T, s string) {
	t.Helper()
	if c, e := Line(s); !alike(c, Command{}) || e != api.ErrForm {
		t.Errorf("%q: %+v %d, not ErrForm", s, c, e)
	}
}

// tells asks for the line of c.
func tells(t *testing.T, c Command, want string) {
	t.Helper()
	if s, e := Text(c); s != want || e != api.OK {
		t.Errorf("%+v: %q %d, not %q", c, s, e, want)
	}
}

// untold asks that c has no line.
func untold(t *testing.T, c Command) {
	t.Helper()
	if s, e := Text(c); s != "" || e != api.ErrArg {
		t.Errorf("%+v: %q %d, not ErrArg", c, s, e)
	}
}

// sample is a line and its command.
type sample struct {
	line string
	c    Command
}

// samples are one of each kind at least.
func samples() []sample {
	return []sample{
		{"PUT a 3", Command{Kind: 1, Key: "a", N: 3}},
		{"GET a", Command{Kind: 2, Key: "a"}},
		{"DEL a", Command{Kind: 3, Key: "a"}},
		{"SCAN a b 10", Command{Kind: 4, Lo: "a", Hi: "b", N: 10}},
		{"SCAN * b 10", Command{Kind: 4, Hi: "b", N: 10}},
		{"SCAN a * 10", Command{Kind: 4, Lo: "a", N: 10}},
		{"SCAN * * 0", Command{Kind: 4}},
		{"SET m 2", Command{Kind: 5, Key: "m", A: 2}},
		{"BUMP m -2", Command{Kind: 6, Key: "m", A: -2}},
		{"UNSET m", Command{Kind: 7, Key: "m"}},
		{"SCORE m", Command{Kind: 8, Key: "m"}},
		{"RANGE 1 2 3", Command{Kind: 9, A: 1, B: 2, N: 3}},
		{"PLACE m", Command{Kind: 10, Key: "m"}},
		{"SPREAD 1 2", Command{Kind: 11, A: 1, B: 2}},
		{"SNAP", Command{Kind: 12}},
		{"DROP 5", Command{Kind: 13, ID: 5}},
		{"GETAT 5 a", Command{Kind: 14, ID: 5, Key: "a"}},
		{"SCANAT 5 a b 10", Command{Kind: 15, ID: 5, Lo: "a", Hi: "b", N: 10}},
		{"SCANAT 5 * * 10", Command{Kind: 15, ID: 5, N: 10}},
		{"SNAPS", Command{Kind: 16}},
		{"COUNT", Command{Kind: 17}},
		{"BEGIN", Command{Kind: 18}},
		{"COMMIT", Command{Kind: 19}},
		{"CANCEL", Command{Kind: 20}},
		{"PING", Command{Kind: 21}},
		{"QUIT", Command{Kind: 22}},
	}
}

// 18.1: each of the commands as it is to be, read and told.
func TestEachKind(t *testing.T) {
	kinds := map[int]bool{}
	for _, s := range samples() {
		reads(t, s.line, s.c)
		tells(t, s.c, s.line)
		kinds[s.c.Kind] = true
	}
	for kind := api.KPut; kind <= api.KQuit; kind++ {
		if !kinds[kind] {
			t.Error("no line of kind", kind)
		}
	}
}

// 18.1: a word too many or too few, wherever it is.
func TestNumberOfWords(t *testing.T) {
	for _, s := range samples() {
		words := strings.Split(s.line, " ")
		for i := range words {
			wrong(t, strings.Join(append(append([]string{}, words[:i]...), words[i+1:]...), " "))
			wrong(t, strings.Join(words[:i], " "))
		}
		for _, more := range []string{"a", "1", "*", "inf", words[0], s.line, "a b c d e f g"} {
			wrong(t, s.line+" "+more)
			wrong(t, more+" "+s.line)
			for i := 1; i < len(words); i++ {
				wrong(t, strings.Join(words[:i], " ")+" "+more+" "+strings.Join(words[i:], " "))
			}
		}
	}
}

// 18.1: the names of commands in great letters alone, and no other names.
func TestNamesOfCommands(t *testing.T) {
	for _, s := range samples() {
		name, rest, _ := strings.Cut(s.line, " ")
		if rest != "" {
			rest = " " + rest
		}
		for i := range name {
			wrong(t, name[:i]+strings.ToLower(name[i:i+1])+name[i+1:]+rest)
			wrong(t, name[:i]+name[i+1:]+"X"+rest)
			wrong(t, name[i+1:]+rest)
		}
		for _, n := range []string{strings.ToLower(name), name + "X", "X" + name, name + name, name + "\x00", name + "\r", name + ":", "\"" + name + "\"", strconv.Itoa(s.c.Kind)} {
			wrong(t, n+rest)
		}
	}
	for _, s := range []string{"", "X", "*", "0", "NOTHING", "HELP", "\x00", "PUTa 3", "\xff\xfe", "SNAP\n", "SNAP\nSNAP", "ＰＩＮＧ"} {
		wrong(t, s)
	}
}

// 18.1: words are parted by single blanks, none ahead or behind; nothing else parts them.
func TestBlanks(t *testing.T) {
	for _, s := range samples() {
		for _, blank := range []string{" ", "\t", "\n", "\r", "\v", "\f", "\x00", "\u00a0", "\u2003"} {
			wrong(t, blank+s.line)
			wrong(t, s.line+blank)
			for i := range s.line {
				if s.line[i] == ' ' {
					wrong(t, s.line[:i]+blank+s.line[i:])
					wrong(t, s.line[:i+1]+blank+s.line[i+1:])
				}
				if s.line[i] == ' ' && blank != " " {
					wrong(t, s.line[:i]+blank+s.line[i+1:])
				}
			}
		}
	}
	for n := range 9 {
		wrong(t, strings.Repeat(" ", n))
	}
}

// linesOfName puts a word into the line of each kind that has a key or a name.
func linesOfName(n string) []sample {
	return []sample{
		{"PUT " + n + " 3", Command{Kind: api.KPut, Key: n, N: 3}},
		{"GET " + n, Command{Kind: api.KGet, Key: n}},
		{"DEL " + n, Command{Kind: api.KDel, Key: n}},
		{"SET " + n + " 1", Command{Kind: api.KSet, Key: n, A: 1}},
		{"BUMP " + n + " 1", Command{Kind: api.KBump, Key: n, A: 1}},
		{"UNSET " + n, Command{Kind: api.KUnset, Key: n}},
		{"SCORE " + n, Command{Kind: api.KScore, Key: n}},
		{"PLACE " + n, Command{Kind: api.KPlace, Key: n}},
		{"GETAT 1 " + n, Command{Kind: api.KGetAt, ID: 1, Key: n}},
	}
}

func linesOfBound(b string) []sample {
	return []sample{
		{"SCAN " + b + " z 3", Command{Kind: api.KScan, Lo: b, Hi: "z", N: 3}},
		{"SCAN a " + b + " 3", Command{Kind: api.KScan, Lo: "a", Hi: b, N: 3}},
		{"SCANAT 1 " + b + " z 3", Command{Kind: api.KScanAt, ID: 1, Lo: b, Hi: "z", N: 3}},
		{"SCANAT 1 a " + b + " 3", Command{Kind: api.KScanAt, ID: 1, Lo: "a", Hi: b, N: 3}},
	}
}

// 18.1: keys, names and bounds by their bytes: each of them, ahead, within and behind.
func TestBytesOfNames(t *testing.T) {
	for b := range 256 {
		one := string([]byte{byte(b)})
		for _, n := range []string{one, one + "x", "x" + one + "x", "x" + one, one + one} {
			all := linesOfName(n)
			if n != "*" {
				all = append(all, linesOfBound(n)...)
			}
			for _, s := range all {
				if b >= 33 && b <= 126 {
					reads(t, s.line, s.c)
					tells(t, s.c, s.line)
				} else {
					wrong(t, s.line)
					untold(t, s.c)
				}
			}
		}
	}
}

// 18.1: keys, names and bounds by their length.
func TestLengthOfNames(t *testing.T) {
	for _, n := range []int{0, 1, 2, 63, 64, 65, 66, 128, 256, 1000, 100000} {
		w := strings.Repeat("w", n)
		for _, s := range linesOfName(w) {
			if n >= 1 && n <= 64 {
				reads(t, s.line, s.c)
				tells(t, s.c, s.line)
			} else {
				wrong(t, s.line)
				untold(t, s.c)
			}
		}
		for _, s := range linesOfBound(w) {
			switch {
			case n == 0:
				wrong(t, s.line)
			case n <= 64:
				reads(t, s.line, s.c)
				tells(t, s.c, s.line)
			default:
				wrong(t, s.line)
				untold(t, s.c)
			}
		}
	}
	// characters of two bytes each are no longer than they are, and none may be
	wrong(t, "GET "+strings.Repeat("é", 32))
}

// 18.1: a bound may be a star alone, told as no bytes; of a key a star is its name.
func TestStar(t *testing.T) {
	for _, s := range linesOfName("*") {
		reads(t, s.line, s.c)
		tells(t, s.c, s.line)
	}
	told := linesOfBound("")
	for i, s := range linesOfBound("*") {
		reads(t, s.line, told[i].c)
		tells(t, told[i].c, s.line)
		untold(t, s.c)
	}
	for _, w := range []string{"**", "*a", "a*", "a*b"} {
		for _, s := range linesOfBound(w) {
			reads(t, s.line, s.c)
			tells(t, s.c, s.line)
		}
	}
	for _, s := range []string{"DROP *", "RANGE * * 1", "SPREAD * *", "SCAN a b *", "PUT a *", "SET m *", "GETAT * a"} {
		wrong(t, s)
	}
}

func linesOfNumber(w string, n int) []sample {
	return []sample{
		{"SCAN a b " + w, Command{Kind: api.KScan, Lo: "a", Hi: "b", N: n}},
		{"RANGE 1 2 " + w, Command{Kind: api.KRange, A: 1, B: 2, N: n}},
		{"DROP " + w, Command{Kind: api.KDrop, ID: n}},
		{"GETAT " + w + " a", Command{Kind: api.KGetAt, ID: n, Key: "a"}},
		{"SCANAT " + w + " a b 1", Command{Kind: api.KScanAt, ID: n, Lo: "a", Hi: "b", N: 1}},
		{"SCANAT 1 a b " + w, Command{Kind: api.KScanAt, ID: 1, Lo: "a", Hi: "b", N: n}},
	}
}

// 18.1: numbers are digits, without noughts ahead of others, at most nine.
func TestNumbers(t *testing.T) {
	for _, n := range []int{0, 1, 9, 10, 99, 1000, 1024, 1025, 65536, 99999999, 100000000, 999999999} {
		for _, s := range linesOfNumber(strconv.Itoa(n), n) {
			reads(t, s.line, s.c)
			tells(t, s.c, s.line)
		}
	}
	for _, w := range []string{"00", "01", "03", "000000000", "0999999999", "1000000000", "9999999999", "-0", "-1", "+0", "+1", "1.", "1.0", ".5", "1e3", "0x1", "0x3ff0000000000000", "0b1", "0o7", "1_000", "1,000", "x", "1x", "x1", "inf", "nan", "١", "9223372036854775807", "9223372036854775808", "18446744073709551617", "1\x00", strings.Repeat("1", 1000), strings.Repeat("0", 1000)} {
		for _, s := range linesOfNumber(w, 0) {
			wrong(t, s.line)
		}
		wrong(t, "PUT a "+w)
	}
	for _, n := range []int{-1, 1000000000, 1 << 32, 1<<32 + 1, math.MinInt, math.MaxInt} {
		for _, s := range linesOfNumber("", n) {
			untold(t, s.c)
		}
		untold(t, Command{Kind: api.KPut, Key: "a", N: n})
	}
}

// 18.1: the length of a PUT. Above MaxValue the command is told as far as its kind and its length.
func TestLengths(t *testing.T) {
	for _, n := range []int{0, 1, 1023, 1024} {
		c := Command{Kind: api.KPut, Key: longest, N: n}
		s := "PUT " + longest + " " + strconv.Itoa(n)
		reads(t, s, c)
		tells(t, c, s)
	}
	for _, n := range []int{1025, 2000, 65535, 65536, 65537, 999999999} {
		w := strconv.Itoa(n)
		c, e := Line("PUT a " + w)
		if !alike(c, Command{Kind: api.KPut, N: n}) || e != api.ErrBig {
			t.Error(n, c, e)
		}
		untold(t, c)
		untold(t, Command{Kind: api.KPut, Key: "a", N: n})
		// what is wrong besides is wrong ahead of it
		for _, s := range []string{"PUT a " + w + " b", "PUT " + w, "PUT  " + w, "PUT a 0" + w, "PUT é " + w, "PUT " + longest + "x " + w, "put a " + w, "PUT a " + w + " ", " PUT a " + w} {
			wrong(t, s)
		}
	}
}

func linesOfScore(w string, x float64) []sample {
	return []sample{
		{"SET m " + w, Command{Kind: api.KSet, Key: "m", A: x}},
		{"BUMP m " + w, Command{Kind: api.KBump, Key: "m", A: x}},
		{"RANGE " + w + " 7 3", Command{Kind: api.KRange, A: x, B: 7, N: 3}},
		{"RANGE 7 " + w + " 3", Command{Kind: api.KRange, A: 7, B: x, N: 3}},
		{"SPREAD " + w + " 7", Command{Kind: api.KSpread, A: x, B: 7}},
		{"SPREAD 7 " + w, Command{Kind: api.KSpread, A: 7, B: x}},
	}
}

// 18.1, W7: scores with their edges, to the bit.
func TestScores(t *testing.T) {
	for _, x := range []float64{0, nought, 1, -1, 0.5, -0.5, 0.1, inf, -inf, 999999999999999, -999999999999999, 1e15, -1e15, 1e300, math.MaxFloat64, -math.MaxFloat64, math.SmallestNonzeroFloat64, -math.SmallestNonzeroFloat64, math.Pi} {
		for _, s := range linesOfScore(num.Text(x), x) {
			reads(t, s.line, s.c)
			tells(t, s.c, s.line)
		}
		for _, s := range linesOfScore("0x"+bits(x), x) {
			if x < inf && x > -inf {
				reads(t, s.line, s.c)
				tells(t, s.c, strings.Replace(s.line, "0x"+bits(x), num.Text(x), 1))
			}
		}
	}
	for _, w := range []string{"nan", "NaN", "-nan", "0x7ff8000000000000", "0x7ff0000000000001", "0xffffffffffffffff", "1.5", "1e3", "+1", "01", "-01", "--1", "Inf", "+inf", "infinity", "0x", "0x1", "0x3FE0000000000000", "0X3fe0000000000000", "0x3fe00000000000000", "1000000000000000", "x", "*", "-"} {
		for _, s := range linesOfScore(w, 0) {
			wrong(t, s.line)
		}
	}
	for _, b := range []uint64{0x7ff8000000000000, 0x7ff8000000000001, 0x7ff0000000000001, 0xfff8000000000000, 0xffffffffffffffff} {
		for _, s := range linesOfScore("", math.Float64frombits(b)) {
			untold(t, s.c)
		}
	}
}

// bits are the sixteen digits of the bits of x.
func bits(x float64) string {
	d := strconv.FormatUint(math.Float64bits(x), 16)
	return strings.Repeat("0", 16-len(d)) + d
}

// 18.1: infinities told by their bits are numbers that are not NaN.
func TestInfinityByBits(t *testing.T) {
	reads(t, "SPREAD 0xfff0000000000000 0x7ff0000000000000", Command{Kind: api.KSpread, A: -inf, B: inf})
	reads(t, "SPREAD 0x8000000000000000 0x0000000000000000", Command{Kind: api.KSpread, A: nought})
}

// 18.1: kinds that there are not, and fields that are not as they may be.
func TestNoText(t *testing.T) {
	for _, kind := range []int{0, -1, 23, 24, 100, 256 + 1, 1<<32 + 1, math.MinInt, math.MaxInt} {
		untold(t, Command{Kind: kind, Key: "a", N: 1})
		untold(t, Command{Kind: kind})
	}
	for _, c := range []Command{
		{Kind: api.KPut, N: 1},
		{Kind: api.KGet},
		{Kind: api.KGet, Key: " "},
		{Kind: api.KGet, Key: "a b"},
		{Kind: api.KGet, Key: "a\nGET b"},
		{Kind: api.KPut, Key: "a 1", N: 1},
		{Kind: api.KSet, Key: "m", A: nan},
		{Kind: api.KRange, A: 1, B: nan, N: 1},
		{Kind: api.KRange, A: nan, B: 1, N: 1},
		{Kind: api.KScan, Lo: "*", Hi: "b", N: 1},
		{Kind: api.KScan, Lo: "a", Hi: "*", N: 1},
		{Kind: api.KScanAt, ID: -1, Lo: "a", Hi: "b", N: 1},
		{Kind: api.KScanAt, ID: 1, Lo: "a", Hi: "b", N: -1},
	} {
		untold(t, c)
	}
}

// junk sets the fields that a kind has not to what no line could tell, or to what one could.
func junk(c Command, r *rand.Rand) Command {
	key, bounds, a, b, n, id := has(c.Kind)
	some := func() string { return []string{"", "*", "x", "a b", strings.Repeat("y", 99)}[r.Intn(5)] }
	one := func() float64 { return []float64{nan, 1, inf, nought}[r.Intn(4)] }
	whole := func() int { return []int{-1, 0, 7, 1025, math.MaxInt, math.MinInt}[r.Intn(6)] }
	if !key {
		c.Key = some()
	}
	if !bounds {
		c.Lo, c.Hi = some(), some()
	}
	if !a {
		c.A = one()
	}
	if !b {
		c.B = one()
	}
	if !n {
		c.N = whole()
	}
	if !id {
		c.ID = whole()
	}
	return c
}

// has tells which fields a kind has, by the document's table.
func has(kind int) (key, bounds, a, b, n, id bool) {
	switch kind {
	case api.KPut:
		return true, false, false, false, true, false
	case api.KGet, api.KDel, api.KUnset, api.KScore, api.KPlace:
		return true, false, false, false, false, false
	case api.KScan:
		return false, true, false, false, true, false
	case api.KSet, api.KBump:
		return true, false, true, false, false, false
	case api.KRange:
		return false, false, true, true, true, false
	case api.KSpread:
		return false, false, true, true, false, false
	case api.KDrop:
		return false, false, false, false, false, true
	case api.KGetAt:
		return true, false, false, false, false, true
	case api.KScanAt:
		return false, true, false, false, true, true
	}
	return false, false, false, false, false, false
}

// 18.1: fields that a kind has not do not count.
func TestFieldsThatDoNotCount(t *testing.T) {
	r := rand.New(rand.NewSource(1))
	for range 100 {
		for _, s := range samples() {
			tells(t, junk(s.c, r), s.line)
		}
	}
	tells(t, Command{Kind: api.KSnap, Key: "a b", Lo: "*", Hi: "*", A: nan, B: nan, N: -5, ID: -7}, "SNAP")
}

// someCommand is one that has a line, with nothing in the fields that its kind has not.
func someCommand(r *rand.Rand) Command {
	c := Command{Kind: 1 + r.Intn(22)}
	name := func() string {
		b := make([]byte, []int{1, 2, 9, 63, 64}[r.Intn(5)])
		for i := range b {
			b[i] = byte(33 + r.Intn(94))
		}
		return string(b)
	}
	bound := func() string {
		if s := name(); s != "*" && r.Intn(4) > 0 {
			return s
		}
		return ""
	}
	score := func() float64 {
		x := math.Float64frombits(r.Uint64())
		if r.Intn(2) == 0 || math.IsNaN(x) {
			return float64(r.Int63n(2e15)-1e15) * float64(r.Intn(3)-1)
		}
		return x
	}
	number := func() int { return r.Intn([]int{1, 10, 1025, 1000000000}[r.Intn(4)]) }
	key, bounds, a, b, n, id := has(c.Kind)
	if key {
		c.Key = name()
	}
	if bounds {
		c.Lo, c.Hi = bound(), bound()
	}
	if a {
		c.A = score()
	}
	if b {
		c.B = score()
	}
	if n {
		c.N = number()
	}
	if c.Kind == api.KPut {
		c.N %= 1025
	}
	if id {
		c.ID = number()
	}
	return c
}

// 18.2, W8: what Text tells is read as it was, but for fields that its kind has not.
func TestThereAndBack(t *testing.T) {
	r := rand.New(rand.NewSource(2))
	for range 50000 {
		c := someCommand(r)
		s, e := Text(junk(c, r))
		if e != api.OK || len(s) > api.MaxLine {
			t.Fatalf("%+v: %q %d", c, s, e)
		}
		if back, e := Line(s); !alike(back, c) || e != api.OK {
			t.Fatalf("%q: %+v %d, not %+v", s, back, e, c)
		}
	}
}

// grammar is what 18.1 says of lines, as patterns that lean on nothing of this package.
func grammar() *regexp.Regexp {
	const (
		name   = ` [!-~]{1,64}`
		number = ` (?:0|[1-9][0-9]{0,8})`
		score  = ` (?:-?inf|-?0|-?[1-9][0-9]{0,14}|0x[0-9a-f]{16})`
	)
	return regexp.MustCompile(`\A(?:` + strings.Join([]string{
		"PUT" + name + number,
		"(?:GET|DEL|UNSET|SCORE|PLACE)" + name,
		"SCAN" + name + name + number,
		"(?:SET|BUMP)" + name + score,
		"RANGE" + score + score + number,
		"SPREAD" + score + score,
		"SNAP|SNAPS|COUNT|BEGIN|COMMIT|CANCEL|PING|QUIT",
		"DROP" + number,
		"GETAT" + number + name,
		"SCANAT" + number + name + name + number,
	}, "|") + `)\z`)
}

// notANumber finds scores that are the bits of none.
var notANumber = regexp.MustCompile(`^(?:SET \S+|BUMP \S+|RANGE|RANGE \S+|SPREAD|SPREAD \S+) 0x[7f]ff(?:[1-9a-f][0-9a-f]{12}|0[0-9a-f]*[1-9a-f][0-9a-f]*)(?: |$)`)

// spoilt changes a line a little, in ways that often leave it right.
func spoilt(s string, r *rand.Rand) string {
	if s == "" {
		return " "
	}
	words := strings.Split(s, " ")
	i, at := r.Intn(len(words)), r.Intn(len(s))
	switch r.Intn(8) {
	case 0:
		return s[:at] + s[at+1:]
	case 1:
		return s[:at] + string([]byte{byte(r.Intn(256))}) + s[at+1:]
	case 2:
		return s[:at] + " " + s[at:]
	case 3:
		return s[:at] + string(s[at]) + s[at:]
	case 4:
		words[i] = []string{"*", "0", "-0", "inf", "nan", "7", "1000000000", "0x7ff8000000000000", "0x7ff0000000000000", "0xfff0000000000000", "0xfff00000000000f0", "", "GET", "SCAN", "PUT", "SET", "BUMP"}[r.Intn(17)]
	case 5:
		words = append(words[:i], words[i+1:]...)
	case 6:
		words = append(words, words[i])
	case 7:
		words[i] = strings.ToLower(words[i])
	}
	return strings.Join(words, " ")
}

// W9: any bytes are a command, just as the patterns have it, or ErrForm; and what is read is told again.
func TestHostileBytes(t *testing.T) {
	g := grammar()
	r := rand.New(rand.NewSource(3))
	right, big := 0, 0
	for range 60000 {
		s, _ := Text(someCommand(r))
		for range r.Intn(4) {
			s = spoilt(s, r)
		}
		c, e := Line(s)
		switch {
		case !g.MatchString(s) || notANumber.MatchString(s):
			wrong(t, s)
		case c.Kind == api.KPut && c.N > 1024:
			big++
			if !alike(c, Command{Kind: api.KPut, N: c.N}) || e != api.ErrBig || !strings.HasSuffix(s, " "+strconv.Itoa(c.N)) {
				t.Errorf("%q: %+v %d", s, c, e)
			}
		default:
			right++
			again, e2 := Text(c)
			if e != api.OK || e2 != api.OK {
				t.Errorf("%q: %+v %d; %q %d", s, c, e, again, e2)
			}
			reads(t, again, c)
		}
	}
	if right < 10000 || right > 50000 || big < 1 {
		t.Error("too few of one sort:", right, big)
	}
}

// 18.3: bytes by chance, and a great many of them.
func TestAnyBytes(t *testing.T) {
	r := rand.New(rand.NewSource(4))
	for range 20000 {
		b := make([]byte, r.Intn(40))
		r.Read(b)
		wrong(t, string(b))
	}
	for _, s := range []string{" ", "a", "1", "PUT ", "PUT a ", "*", "\n", "\x00", "a "} {
		many := strings.Repeat(s, 1<<20)
		wrong(t, many)
		for _, ahead := range []string{"PUT ", "GET ", "SCAN ", "SET m ", "RANGE 1 ", "DROP ", "SNAP ", "PUT a "} {
			wrong(t, ahead+many)
		}
		untold(t, Command{Kind: api.KGet, Key: many})
		untold(t, Command{Kind: api.KScan, Lo: many, Hi: many})
	}
}

// shares asks whether s lies in the memory of whole.
func shares(s, whole string) bool {
	if s == "" {
		return false
	}
	at, from := uintptr(unsafe.Pointer(unsafe.StringData(s))), uintptr(unsafe.Pointer(unsafe.StringData(whole)))
	return at >= from && at < from+uintptr(len(whole))
}

// DOC.md, rule 3: what is told is new memory.
func TestNewMemory(t *testing.T) {
	for _, s := range samples() {
		line := strings.Clone(s.line)
		c, _ := Line(line)
		for _, part := range []string{c.Key, c.Lo, c.Hi} {
			if shares(part, line) {
				t.Errorf("%q: %q lies in it", line, part)
			}
		}
		told, _ := Text(c)
		for _, part := range []string{c.Key, c.Lo, c.Hi} {
			if shares(part, told) {
				t.Errorf("%+v: %q lies in its line", c, part)
			}
		}
	}
}
