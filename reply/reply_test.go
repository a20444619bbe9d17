package reply

import (
	"math"
	"math/rand"
	"regexp"
	"slices"
	"strconv"
	"strings"
	"testing"
	"unsafe"

	"reliquary/api"
	"reliquary/num"
)

var (
	inf    = math.Inf(1)
	nan    = math.NaN()
	nought = math.Copysign(0, -1)
)

// longest is a name as long as may be.
var longest = strings.Repeat("n", 64)

// parted asks that the texts of l, one behind the other, are parted again as they were.
func parted(t *testing.T, l ...string) {
	t.Helper()
	if got, e := Parse(strings.Join(l, "")); !slices.Equal(got, l) || e != api.OK {
		t.Errorf("%s: %s %d", brief(l...), brief(got...), e)
	}
}

// brief tells the beginnings of texts.
func brief(l ...string) string {
	var b strings.Builder
	for _, s := range l[:min(len(l), 9)] {
		b.WriteString(strconv.Quote(s[:min(len(s), 99)]) + " ")
	}
	return b.String() + "(" + strconv.Itoa(len(l)) + ")"
}

// wrong asks that s is no answers, and that nothing is told beside the error.
func wrong(t *testing.T, s string) {
	t.Helper()
	if l, e := Parse(s); l != nil || e != api.ErrForm {
		t.Errorf("%s: %s %d, not ErrForm", brief(s), brief(l...), e)
	}
}

// sample is what was told and what the document asks for.
type sample struct {
	got, want string
}

// samples are of each kind, with their edges; all are read again.
func samples() []sample {
	return []sample{
		{OK(), "OK\n"},
		{None(), "NONE\n"},
		{Bool(true), "YES\n"},
		{Bool(false), "NO\n"},
		{Err(api.ErrForm), "ERR SYNTAX\n"},
		{Err(api.ErrArg), "ERR ARG\n"},
		{Value([]byte("hi")), "VALUE 2\nhi\n"},
		{Value(nil), "VALUE 0\n\n"},
		{Value([]byte{}), "VALUE 0\n\n"},
		{Value([]byte("\n")), "VALUE 1\n\n\n"},
		{Value([]byte("\n\n\n")), "VALUE 3\n\n\n\n\n"},
		{Value([]byte("\r\n")), "VALUE 2\n\r\n\n"},
		{Value([]byte("a\x00b\xff")), "VALUE 4\na\x00b\xff\n"},
		{Value([]byte("é")), "VALUE 2\né\n"},
		{Value([]byte("VALUE 2\nhi\n")), "VALUE 11\nVALUE 2\nhi\n\n"},
		{Value([]byte("OK\nNONE\n")), "VALUE 8\nOK\nNONE\n\n"},
		{Value([]byte("0123456789")), "VALUE 10\n0123456789\n"},
		{Pairs(nil), "PAIRS 0\n"},
		{Pairs([]api.Pair{}), "PAIRS 0\n"},
		{Pairs([]api.Pair{{Key: "a", Value: []byte("x")}}), "PAIRS 1\na 1\nx\n"},
		{Pairs([]api.Pair{{Key: "a"}}), "PAIRS 1\na 0\n\n"},
		{Pairs([]api.Pair{{Key: "b", Value: []byte("x\ny")}, {Key: "a"}, {Key: "a", Value: []byte("\n")}}), "PAIRS 3\nb 3\nx\ny\na 0\n\na 1\n\n\n"},
		{Pairs([]api.Pair{{Key: "PAIRS", Value: []byte("PAIRS 1\na 1\nx\n")}}), "PAIRS 1\nPAIRS 14\nPAIRS 1\na 1\nx\n\n"},
		{Pairs([]api.Pair{{Key: longest, Value: []byte("z")}, {Key: "!~*", Value: []byte("z")}}), "PAIRS 2\n" + longest + " 1\nz\n!~* 1\nz\n"},
		{Scored(nil), "SCORED 0\n"},
		{Scored([]api.Scored{}), "SCORED 0\n"},
		{Scored([]api.Scored{{Name: "m", Score: nought}}), "SCORED 1\nm -0\n"},
		{Scored([]api.Scored{{Name: "n", Score: inf}, {Name: "m", Score: -inf}, {Name: "m"}}), "SCORED 3\nn inf\nm -inf\nm 0\n"},
		{Scored([]api.Scored{{Name: longest, Score: 0.5}, {Name: "OK", Score: -3}}), "SCORED 2\n" + longest + " 0x3fe0000000000000\nOK -3\n"},
		{Score(0), "SCORE 0\n"},
		{Score(nought), "SCORE -0\n"},
		{Score(inf), "SCORE inf\n"},
		{Score(-inf), "SCORE -inf\n"},
		{Score(-7), "SCORE -7\n"},
		{Score(0.5), "SCORE 0x3fe0000000000000\n"},
		{Score(999999999999999), "SCORE 999999999999999\n"},
		{Score(1e15), "SCORE 0x430c6bf526340000\n"},
		{Score(math.SmallestNonzeroFloat64), "SCORE 0x0000000000000001\n"},
		{Number(0), "NUMBER 0\n"},
		{Number(1), "NUMBER 1\n"},
		{Number(-1), "NUMBER -1\n"},
		{Number(10), "NUMBER 10\n"},
		{Number(999999999), "NUMBER 999999999\n"},
		{Number(-999999999), "NUMBER -999999999\n"},
		{Numbers(nil), "NUMBERS 0\n"},
		{Numbers([]int{}), "NUMBERS 0\n"},
		{Numbers([]int{0}), "NUMBERS 1 0\n"},
		{Numbers([]int{3, 1}), "NUMBERS 2 3 1\n"},
		{Numbers([]int{1, 2, 3, 4, 5, 6, 7, 8, 9, 10, 999999999}), "NUMBERS 11 1 2 3 4 5 6 7 8 9 10 999999999\n"},
		{Spread(api.Spread{}), "SPREAD 0 0 0 0 0\n"},
		{Spread(api.Spread{N: 3, Least: -2, Most: 4, Sum: 1, Mean: 0.5}), "SPREAD 3 -2 4 1 0x3fe0000000000000\n"},
		{Spread(api.Spread{N: 999999999, Least: nought, Most: 0, Sum: nought, Mean: nought}), "SPREAD 999999999 -0 0 -0 -0\n"},
		{Spread(api.Spread{Least: inf, Most: -inf, Mean: nan}), "SPREAD 0 inf -inf 0 nan\n"},
	}
}

// 19.1: each answer as it is to be; 19.2: each is read as itself.
func TestEachAnswer(t *testing.T) {
	for _, s := range samples() {
		if s.got != s.want {
			t.Errorf("%q, not %q", s.got, s.want)
		}
		parted(t, s.want)
	}
}

// 19.1: each error has its word, all others ARG.
func TestErrors(t *testing.T) {
	words := map[api.Errno]string{3: "SYNTAX", 5: "TOOBIG", 2: "TOOBIG", 61: "NOSNAP", 60: "FULL", 6: "NAN", 65: "MANY", 50: "DEAD"}
	all := []api.Errno{math.MinInt, math.MaxInt, 1<<32 + 3}
	for e := api.Errno(-300); e <= 300; e++ {
		all = append(all, e)
	}
	for _, e := range all {
		w := words[e]
		if w == "" {
			w = "ARG"
		}
		if got := Err(e); got != "ERR "+w+"\n" {
			t.Errorf("%d: %q, not %s", e, got, w)
		}
		parted(t, Err(e))
	}
	for _, s := range []string{"ERR\n", "ERR \n", "ERR syntax\n", "ERR OK\n", "ERR SYNTA\n", "ERR SYNTAXX\n", "ERR SYNTAX FULL\n", "ERR  SYNTAX\n", "ERR SYNTAX \n", "ERR 3\n", "ERR 0\n", "ERR LONG\n", "ERR FORM\n", "ERR NONE\n", "ERR THERE\n", "ERR \x00ARG\n", "ERRARG\n", "SYNTAX\n", "ARG\n"} {
		wrong(t, s)
	}
}

// looksLikeAnswers are bytes that might be taken for something else.
func looksLikeAnswers() []string {
	l := []string{"", " ", "\n", "\n\n", "\r", "\r\n", "a\n", "\na", "VALUE", "VALUE 0\n", "VALUE 0\n\n", "0", "1\n", "PAIRS 1\n", "a 1\nx", "\x00", "\xff\xfe", strings.Repeat("\n", 50), strings.Repeat("OK\n", 50)}
	for _, s := range samples() {
		l = append(l, s.want, s.want[:len(s.want)-1], s.want+s.want)
	}
	return l
}

// 19.1, 19.2: values of any bytes and of any length, alone and in pairs.
func TestValues(t *testing.T) {
	l := looksLikeAnswers()
	for b := range 256 {
		l = append(l, string([]byte{byte(b)}))
	}
	for _, n := range []int{9, 10, 11, 99, 100, 1023, 1024, 1025, 4096, 65536, 1000000} {
		l = append(l, strings.Repeat("v", n), strings.Repeat("\n", n))
	}
	for _, v := range l {
		behind := strconv.Itoa(len(v)) + "\n" + v + "\n"
		if got := Value([]byte(v)); got != "VALUE "+behind {
			t.Errorf("value %.40q: %.60q", v, got)
		}
		if got := Pairs([]api.Pair{{Key: "k", Value: []byte(v)}, {Key: "l"}}); got != "PAIRS 2\nk "+behind+"l 0\n\n" {
			t.Errorf("pair %.40q: %.60q", v, got)
		}
		parted(t, Value([]byte(v)), Pairs([]api.Pair{{Key: "k", Value: []byte(v)}, {Key: "l"}}), OK())
	}
}

// 19.1, W7: scores with their edges, to the bit.
func TestScores(t *testing.T) {
	for _, x := range []float64{0, nought, 1, -1, 0.5, -0.5, 0.1, inf, -inf, nan, 999999999999999, -999999999999999, 1e15, -1e15, 1e300, math.MaxFloat64, -math.MaxFloat64, math.SmallestNonzeroFloat64, -math.SmallestNonzeroFloat64, math.Pi} {
		w := num.Text(x)
		for _, s := range []sample{
			{Score(x), "SCORE " + w + "\n"},
			{Scored([]api.Scored{{Name: "m", Score: x}, {Name: "n", Score: 1}}), "SCORED 2\nm " + w + "\nn 1\n"},
			{Spread(api.Spread{N: 1, Least: x}), "SPREAD 1 " + w + " 0 0 0\n"},
			{Spread(api.Spread{N: 1, Most: x}), "SPREAD 1 0 " + w + " 0 0\n"},
			{Spread(api.Spread{N: 1, Sum: x}), "SPREAD 1 0 0 " + w + " 0\n"},
			{Spread(api.Spread{N: 1, Mean: x}), "SPREAD 1 0 0 0 " + w + "\n"},
		} {
			if s.got != s.want {
				t.Errorf("%v: %q, not %q", x, s.got, s.want)
			}
			parted(t, s.want)
		}
	}
}

// linesOfScore puts a word where each kind of answer has a score.
func linesOfScore(w string) []string {
	return []string{"SCORE " + w + "\n", "SCORED 1\nm " + w + "\n", "SCORED 2\nm 1\nm " + w + "\n", "SPREAD 1 " + w + " 0 0 0\n", "SPREAD 1 0 " + w + " 0 0\n", "SPREAD 1 0 0 " + w + " 0\n", "SPREAD 1 0 0 0 " + w + "\n"}
}

// 19.2: scores are those of num.Parse, the bits of any number among them.
func TestScoresThatAreRead(t *testing.T) {
	for _, w := range []string{"nan", "inf", "-inf", "0", "-0", "7", "-7", "0x0000000000000000", "0x8000000000000000", "0x4008000000000000", "0x7ff0000000000000", "0xfff0000000000000"} {
		for _, s := range linesOfScore(w) {
			parted(t, s)
		}
	}
	for _, w := range []string{"", " ", "NaN", "-nan", "0x7ff8000000000000", "0x7ff0000000000001", "0xffffffffffffffff", "1.5", "1e3", "+1", "01", "00", "-00", "-01", "--1", "-", "Inf", "+inf", "infinity", "0x", "0x1", "0x3FE0000000000000", "0X3fe0000000000000", "0x3fe00000000000000", "1000000000000000", "x", "*", "1 1", "1\t", "1\x00", "1\r", "é"} {
		for _, s := range linesOfScore(w) {
			wrong(t, s)
		}
	}
}

// 19.1: numbers beyond what is read are told all the same.
func TestGreatNumbers(t *testing.T) {
	for _, n := range []int{1000000000, -1000000000, 1 << 32, math.MaxInt, math.MinInt} {
		w := strconv.Itoa(n)
		for _, s := range []sample{{Number(n), "NUMBER " + w + "\n"}, {Numbers([]int{1, n}), "NUMBERS 2 1 " + w + "\n"}, {Spread(api.Spread{N: n}), "SPREAD " + w + " 0 0 0 0\n"}} {
			if s.got != s.want {
				t.Errorf("%d: %q, not %q", n, s.got, s.want)
			}
			wrong(t, s.got)
		}
	}
	if s := Numbers([]int{-2, 0}); s != "NUMBERS 2 -2 0\n" {
		t.Error(s)
	}
	if s := Spread(api.Spread{N: -1}); s != "SPREAD -1 0 0 0 0\n" {
		t.Error(s)
	}
}

// linesOfNumber puts a word where each kind of answer has a number that is w.
func linesOfNumber(w string) []string {
	return []string{"NUMBERS 1 " + w + "\n", "NUMBERS 2 " + w + " 1\n", "NUMBERS 2 1 " + w + "\n", "SPREAD " + w + " 0 0 0 0\n"}
}

// 19.2: numbers as 18.1 has them; only the one behind NUMBER may be below nought.
func TestNumbersThatAreRead(t *testing.T) {
	for _, w := range []string{"0", "1", "9", "10", "99", "100000000", "999999999"} {
		parted(t, append(linesOfNumber(w), "NUMBER "+w+"\n")...)
	}
	for _, w := range []string{"-1", "-10", "-999999999"} {
		parted(t, "NUMBER "+w+"\n")
		for _, s := range linesOfNumber(w) {
			wrong(t, s)
		}
	}
	for _, w := range []string{"", " ", "-", "-0", "--1", "- 1", "-01", "1-", "+0", "+1", "-+1", "00", "01", "000000000", "0999999999", "1000000000", "-1000000000", "9223372036854775807", "-9223372036854775808", "9223372036854775808", "18446744073709551617", "1.", "1.0", "1e3", "0x1", "0x3ff0000000000000", "0b1", "1_000", "x", "1x", "x1", "inf", "nan", "*", "١", "1\x00", "1\r", "\t1", strings.Repeat("1", 1000), strings.Repeat("0", 1000)} {
		for _, s := range append(linesOfNumber(w), "NUMBER "+w+"\n", "NUMBER 1 "+w+"\n") {
			wrong(t, s)
		}
		// Nor is it a length, or how many there are, of nothing or of one.
		for _, s := range []string{"VALUE " + w + "\n\n", "VALUE " + w + "\nx\n", "PAIRS " + w + "\n", "PAIRS " + w + "\na 1\nx\n", "PAIRS 1\na " + w + "\n\n", "PAIRS 1\na " + w + "\nx\n", "SCORED " + w + "\n", "SCORED " + w + "\nm 1\n", "NUMBERS " + w + "\n", "NUMBERS " + w + " 1\n"} {
			wrong(t, s)
		}
	}
}

// 19.2: as many behind as is said, no more and no fewer.
func TestHowMany(t *testing.T) {
	pairs, members, numbers := "", "", ""
	for n := range 12 {
		for said := range 14 {
			w := strconv.Itoa(said)
			all := []string{"PAIRS " + w + "\n" + pairs, "SCORED " + w + "\n" + members, "NUMBERS " + w + numbers + "\n", "VALUE " + w + "\n" + strings.Repeat("v", n) + "\n"}
			for _, s := range all {
				if said == n {
					parted(t, s)
				} else {
					wrong(t, s)
				}
			}
		}
		pairs += "k" + strconv.Itoa(n) + " 2\n\nv\n"
		members += "m" + strconv.Itoa(n) + " " + strconv.Itoa(n) + "\n"
		numbers += " " + strconv.Itoa(n)
	}
	for n := range 7 {
		s := "SPREAD" + strings.Repeat(" 1", n) + "\n"
		if n == 5 {
			parted(t, s)
		} else {
			wrong(t, s)
		}
	}
}

// 19.4: a great number that is said ends at once, if there are not so many.
func TestManyThatAreNotThere(t *testing.T) {
	for range 2000 {
		for _, s := range []string{"PAIRS 999999999\n", "PAIRS 999999999\na 1\nx\n", "PAIRS 1\na 999999999\n", "SCORED 999999999\n", "SCORED 999999999\nm 1\n", "NUMBERS 999999999\n", "NUMBERS 999999999 1\n", "VALUE 999999999\n", "VALUE 999999999\nx\n"} {
			wrong(t, s)
		}
	}
}

// linesOfName puts a word where each kind of answer has a key or a name.
func linesOfName(n string) []string {
	return []string{"PAIRS 1\n" + n + " 1\nx\n", "PAIRS 2\na 0\n\n" + n + " 0\n\n", "SCORED 1\n" + n + " 1\n", "SCORED 2\na -0\n" + n + " inf\n"}
}

// 19.2: keys and names by their bytes and by their length.
func TestNames(t *testing.T) {
	for b := range 256 {
		one := string([]byte{byte(b)})
		for _, n := range []string{one, one + "x", "x" + one + "x", "x" + one} {
			for _, s := range linesOfName(n) {
				if b >= 33 && b <= 126 {
					parted(t, s)
				} else {
					wrong(t, s)
				}
			}
		}
	}
	for _, n := range []int{0, 1, 2, 63, 64, 65, 128, 256, 100000} {
		for _, s := range linesOfName(strings.Repeat("w", n)) {
			if n >= 1 && n <= 64 {
				parted(t, s)
			} else {
				wrong(t, s)
			}
		}
	}
	// Those that may not be are told all the same.
	if s := Pairs([]api.Pair{{Key: "a b"}}); s != "PAIRS 1\na b 0\n\n" {
		t.Errorf("%q", s)
	}
	if s := Scored([]api.Scored{{}}); s != "SCORED 1\n 0\n" {
		t.Errorf("%q", s)
	}
}

// 19.2: the words that answers begin with, in great letters alone, and no others.
func TestWordsOfAnswers(t *testing.T) {
	for _, s := range samples() {
		i := strings.IndexAny(s.want, " \n")
		word, rest := s.want[:i], s.want[i:]
		for _, w := range []string{"", strings.ToLower(word), strings.ToLower(word[:1]) + word[1:], word + "X", "X" + word, word + word, word + "\x00", word + "\r", word + ":", "X", "+" + word, "-" + word, "HI"} {
			wrong(t, w+rest)
		}
	}
	for _, s := range []string{"OK", "\n", "\n\n", " ", " \n", "OK OK\n", "OK 1\n", "NONE 0\n", "YES YES\n", "NO 0\n", "TRUE\n", "PONG\n", "VALUE\n", "VALUE\nx\n", "SCORE\n", "SCORED\n", "PAIRS\n", "NUMBER\n", "NUMBERS\n", "SPREAD\n", "VALUE 1 1\nx\n", "PAIRS 0 0\n", "SCORED 0 0\n", "SCORE 1 1\n", "NUMBER 1 1\n"} {
		wrong(t, s)
	}
}

// 19.2: words are parted by single blanks, none ahead or behind; a line feed alone ends a line.
func TestBlanks(t *testing.T) {
	for _, s := range []string{"OK\n", "ERR ARG\n", "VALUE 0\n\n", "PAIRS 1\na 0\n\n", "SCORED 1\nm 1\n", "SCORE 1\n", "NUMBER 1\n", "NUMBERS 2 1 1\n", "SPREAD 1 1 1 1 1\n"} {
		for _, blank := range []string{" ", "\t", "\n", "\r", "\v", "\f", "\x00", "\u00a0"} {
			for i := range s {
				wrong(t, s[:i]+blank+s[i:])
				if s[i] == ' ' && blank != " " || s[i] == '\n' && blank != "\n" {
					wrong(t, s[:i]+blank+s[i+1:])
				}
			}
			wrong(t, s+blank)
		}
	}
}

// 19.2: nothing at all is no answers, and right.
func TestNothing(t *testing.T) {
	if l, e := Parse(""); len(l) != 0 || e != api.OK {
		t.Error(l, e)
	}
}

// 19.2: cut short at any place, or with a byte too many ahead or behind.
func TestCutShort(t *testing.T) {
	all := looksLikeAnswers()
	texts := []string{Pairs([]api.Pair{{Key: "k", Value: []byte(strings.Join(all[:20], ""))}, {Key: "l", Value: []byte("OK\n")}})}
	for _, s := range samples() {
		texts = append(texts, s.want)
	}
	for _, s := range texts {
		for i := 1; i < len(s); i++ {
			wrong(t, s[:i])
			wrong(t, "OK\n"+s[:i])
			wrong(t, s[:i]+"OK\n"+s[i:]+"X")
		}
		for b := range 256 {
			one := string([]byte{byte(b)})
			wrong(t, s+one)
			wrong(t, one+s)
			wrong(t, s+one+s)
		}
	}
}

// 19.2: a length that is one too small or too great for its value.
func TestLengthsThatAreWrong(t *testing.T) {
	for _, v := range looksLikeAnswers() {
		for _, n := range []int{len(v) - 2, len(v) - 1, len(v) + 1, len(v) + 2, len(v) + 3} {
			s := strconv.Itoa(n) + "\n" + v + "\n"
			// What is left of it might be answers by chance: then the first one ends where it says.
			l, e := Parse("VALUE " + s)
			if e == api.OK && l[0] != "VALUE "+s[:len(strconv.Itoa(n))+1+n+1] || e != api.OK && l != nil {
				t.Errorf("%q: %q %d", s, l, e)
			}
			if !strings.HasPrefix(v, "\n") && !strings.HasSuffix(v, "\n") && v != "" {
				wrong(t, "VALUE "+s)
				wrong(t, "PAIRS 1\nk "+s)
				wrong(t, "PAIRS 2\nk "+s+"l 0\n\n")
			}
		}
	}
}

// someAnswer is one of any kind that is read again.
func someAnswer(r *rand.Rand) string {
	number := func() int { return r.Intn([]int{1, 10, 2000, 1000000000}[r.Intn(4)]) }
	score := func() float64 {
		if x := math.Float64frombits(r.Uint64()); r.Intn(2) == 0 {
			return x
		}
		return []float64{nought, 0, inf, -inf, nan, 1, -1, float64(r.Int63n(2e15) - 1e15)}[r.Intn(8)]
	}
	name := func() string {
		b := make([]byte, []int{1, 2, 9, 63, 64}[r.Intn(5)])
		for i := range b {
			b[i] = byte(33 + r.Intn(94))
		}
		return string(b)
	}
	value := func() []byte {
		if l := looksLikeAnswers(); r.Intn(2) == 0 {
			return []byte(l[r.Intn(len(l))])
		}
		b := make([]byte, r.Intn(30))
		r.Read(b)
		return b
	}
	switch r.Intn(11) {
	case 0:
		return OK()
	case 1:
		return Err(api.Errno(r.Intn(70)))
	case 2:
		return Value(value())
	case 3:
		return None()
	case 4:
		return Bool(r.Intn(2) == 0)
	case 5:
		l := make([]api.Pair, r.Intn(12))
		for i := range l {
			l[i] = api.Pair{Key: name(), Value: value()}
		}
		return Pairs(l)
	case 6:
		l := make([]api.Scored, r.Intn(12))
		for i := range l {
			l[i] = api.Scored{Name: name(), Score: score()}
		}
		return Scored(l)
	case 7:
		return Score(score())
	case 8:
		return Number(number() - number())
	case 9:
		l := make([]int, r.Intn(12))
		for i := range l {
			l[i] = number()
		}
		return Numbers(l)
	}
	return Spread(api.Spread{N: number(), Least: score(), Most: score(), Sum: score(), Mean: score()})
}

// 19.3, W8: answers one behind the other are parted again as they were.
func TestParted(t *testing.T) {
	r := rand.New(rand.NewSource(1))
	for range 1500 {
		l := make([]string, 1+r.Intn(9))
		for i := range l {
			l[i] = someAnswer(r)
		}
		parted(t, l...)
		// Cut anywhere they are those ahead of the cut, or no answers.
		s := strings.Join(l, "")
		cut, whole := r.Intn(len(s)), 0
		for end := 0; whole < len(l) && end+len(l[whole]) <= cut; whole++ {
			end += len(l[whole])
		}
		if strings.Join(l[:whole], "") != s[:cut] {
			wrong(t, s[:cut])
		} else if got, e := Parse(s[:cut]); !slices.Equal(got, l[:whole]) || e != api.OK {
			t.Errorf("%s: %s %d", brief(s[:cut]), brief(got...), e)
		}
	}
}

// Parts of answers as patterns that lean on nothing of this package.
const (
	aName   = `[!-~]{1,64}`
	aNumber = `(?:0|[1-9][0-9]{0,8})`
	aScore  = `(?:nan|-?inf|0x[0-9a-f]{16}|-?0|-?[1-9][0-9]{0,14})`
)

// heads are the first lines of answers: those of one line, and those with so many behind.
var (
	oneLiner = regexp.MustCompile(`\A(?:OK|NONE|YES|NO|ERR (?:SYNTAX|TOOBIG|NOSNAP|FULL|NAN|MANY|DEAD|ARG)|SCORE ` + aScore + `|NUMBER (?:0|-?[1-9][0-9]{0,8})|SPREAD ` + aNumber + `(?: ` + aScore + `){4})\n`)
	someMore = regexp.MustCompile(`\A(VALUE|PAIRS|SCORED|NUMBERS) (` + aNumber + `)`)
	aPair    = regexp.MustCompile(`\A\n` + aName + ` (` + aNumber + `)`)
	aMember  = regexp.MustCompile(`\A\n` + aName + ` ` + aScore)
	oneMore  = regexp.MustCompile(`\A ` + aNumber)
	noNumber = regexp.MustCompile(`0x[7f]ff(?:[1-9a-f][0-9a-f]{12}|0[0-9a-f]*[1-9a-f][0-9a-f]*)`)
)

// lengthOf is how long the answer is that s begins with, by the patterns; 0, if there is none.
func lengthOf(s string) int {
	if m := oneLiner.FindString(s); m != "" {
		if noNumber.MatchString(m) {
			return 0
		}
		return len(m)
	}
	m := someMore.FindStringSubmatch(s)
	if m == nil {
		return 0
	}
	n, _ := strconv.Atoi(m[2])
	at := len(m[0])
	if m[1] == "VALUE" {
		at, n = at+1+n, 0
		if at >= len(s) || s[len(m[0])] != '\n' {
			return 0
		}
	}
	for range n {
		more := lengthOfOne(m[1], s[at:])
		if more == 0 {
			return 0
		}
		at += more
	}
	if !strings.HasPrefix(s[at:], "\n") {
		return 0
	}
	return at + 1
}

// lengthOfOne is how long one of a list is, from the end of the one ahead of it to its own, without its last line feed.
func lengthOfOne(word, s string) int {
	switch word {
	case "PAIRS":
		m := aPair.FindStringSubmatch(s)
		if m == nil {
			return 0
		}
		n, _ := strconv.Atoi(m[1])
		if len(s) <= len(m[0])+1+n || s[len(m[0])] != '\n' {
			return 0
		}
		return len(m[0]) + 1 + n
	case "SCORED":
		m := aMember.FindString(s)
		if noNumber.MatchString(m[strings.LastIndexByte(m, ' ')+1:]) {
			return 0
		}
		return len(m)
	}
	return len(oneMore.FindString(s))
}

// byPatterns parts s by the patterns alone.
func byPatterns(s string) ([]string, api.Errno) {
	var l []string
	for s != "" {
		n := lengthOf(s)
		if n == 0 {
			return nil, api.ErrForm
		}
		l = append(l, s[:n])
		s = s[n:]
	}
	return l, api.OK
}

// spoilt changes a text a little, in ways that often leave it right.
func spoilt(s string, r *rand.Rand) string {
	if s == "" {
		return "\n"
	}
	at := r.Intn(len(s))
	words := strings.SplitAfter(s, " ")
	lines := strings.SplitAfter(s, "\n")
	i, j := r.Intn(len(words)), r.Intn(len(lines))
	switch r.Intn(8) {
	case 0:
		return s[:at] + s[at+1:]
	case 1:
		return s[:at] + string([]byte{byte(r.Intn(256))}) + s[at+1:]
	case 2:
		return s[:at] + []string{" ", "\n", "0", "1", "-", "a"}[r.Intn(6)] + s[at:]
	case 3:
		words[i] = []string{"0 ", "1 ", "2 ", "-0 ", "inf ", "nan ", "7\n", "1000000000 ", "0x7ff8000000000000 ", "0x7ff0000000000000 ", " ", "NUMBERS ", "VALUE "}[r.Intn(13)]
		return strings.Join(words, "")
	case 4:
		return strings.Join(append(words[:i:i], words[i+1:]...), "")
	case 5:
		return strings.Join(append(lines[:j:j], lines[j+1:]...), "")
	case 6:
		return strings.Join(lines[:j], "") + lines[j] + strings.Join(lines[j:], "")
	}
	return s[:at] + strings.Replace(s[at:], "0", "1", 1)
}

// W9: any bytes are answers, just as the patterns have them, or ErrForm.
func TestHostileBytes(t *testing.T) {
	r := rand.New(rand.NewSource(2))
	right := 0
	for range 40000 {
		s := someAnswer(r)
		if r.Intn(3) == 0 {
			s += someAnswer(r)
		}
		for range r.Intn(4) {
			s = spoilt(s, r)
		}
		got, e := Parse(s)
		want, e2 := byPatterns(s)
		if !slices.Equal(got, want) || e != e2 {
			t.Fatalf("%q: %s %d, not %s %d", s, brief(got...), e, brief(want...), e2)
		}
		if e == api.OK {
			right++
		}
	}
	if right < 8000 || right > 32000 {
		t.Error("too few of one sort:", right)
	}
}

// 19.4: bytes by chance, and a great many of them.
func TestAnyBytes(t *testing.T) {
	r := rand.New(rand.NewSource(3))
	for range 20000 {
		b := make([]byte, 1+r.Intn(40))
		r.Read(b)
		wrong(t, string(b))
	}
	for _, s := range []string{" ", "a", "1", "0", "-", "VALUE ", "PAIRS 1\n", "SCORED 2\n", "NUMBERS 1 ", "\n", "\x00", "a "} {
		many := strings.Repeat(s, 1<<20)
		wrong(t, many)
		for _, ahead := range []string{"OK", "ERR ", "VALUE ", "VALUE 1\n", "PAIRS ", "PAIRS 9\n", "SCORED 9\n", "SCORED 9\nm ", "SCORE ", "NUMBER ", "NUMBER -", "NUMBERS ", "NUMBERS 9 ", "SPREAD ", "SPREAD 1 "} {
			wrong(t, ahead+many)
		}
	}
}

// 19.3: a great many answers, and great ones.
func TestManyAnswers(t *testing.T) {
	const n = 300000
	l, e := Parse(strings.Repeat(Number(-7), n))
	if len(l) != n || l[0] != Number(-7) || l[n-1] != Number(-7) || e != api.OK {
		t.Error(len(l), e)
	}
	pairs, members, numbers := make([]api.Pair, n), make([]api.Scored, n), make([]int, n)
	for i := range n {
		pairs[i] = api.Pair{Key: strconv.Itoa(i), Value: []byte("\n")}
		members[i] = api.Scored{Name: strconv.Itoa(i), Score: float64(i)}
		numbers[i] = i
	}
	parted(t, Pairs(pairs), Scored(members), Numbers(numbers), Value(make([]byte, 5*n)))
}

// TestOwnMemory changes what was handed in behind the call; the call itself changed none of it.
func TestOwnMemory(t *testing.T) {
	room := []byte("hello")
	b := room[:2]
	value, pairs := Value(b), Pairs([]api.Pair{{Key: "k", Value: b}})
	if string(room) != "hello" {
		t.Errorf("%q", room)
	}
	clear(room)
	if value != "VALUE 2\nhe\n" || pairs != "PAIRS 1\nk 2\nhe\n" {
		t.Errorf("%q %q", value, pairs)
	}
	l := []int{3, 1, 2}
	if s := Numbers(l[:2]); s != "NUMBERS 2 3 1\n" || !slices.Equal(l, []int{3, 1, 2}) {
		t.Error(s, l)
	}
}

// shares asks whether s lies in the memory of whole.
func shares(s, whole string) bool {
	at, from := uintptr(unsafe.Pointer(unsafe.StringData(s))), uintptr(unsafe.Pointer(unsafe.StringData(whole)))
	return at >= from && at < from+uintptr(len(whole))
}

// DOC.md, rule 3: what is told is new memory, for each answer its own.
func TestNewMemory(t *testing.T) {
	for _, s := range samples() {
		whole := s.want + OK() + s.want
		l, _ := Parse(whole)
		if len(l) != 3 {
			t.Fatalf("%q", l)
		}
		for _, part := range l {
			if shares(part, whole) {
				t.Errorf("%q: %q lies in it", whole, part)
			}
		}
		if shares(l[0], l[2]) || shares(l[2], l[0]) {
			t.Errorf("%q: both lie in one another", l[0])
		}
	}
}
