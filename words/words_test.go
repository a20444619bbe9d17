package words

import (
	"bytes"
	"encoding/binary"
	"math"
	"math/rand"
	"slices"
	"strings"
	"testing"

	"reliquary/api"
)

// counted is n bytes, no two neighbours alike and none of them 0.
func counted(n int) []byte {
	b := make([]byte, n)
	for i := range b {
		b[i] = byte(1 + i%255)
	}
	return b
}

// random is at most n bytes, now of all kinds, now of the edges' bytes alone.
func random(r *rand.Rand, n int) []byte {
	b := make([]byte, r.Intn(n+1))
	r.Read(b)
	if r.Intn(2) == 0 {
		for i := range b {
			b[i] = "\x00\x01\x02\x7f\x80\x81\xff\xff"[b[i]%8]
		}
	}
	return b
}

// behind is b ahead of spare room that is known.
func behind(b []byte) []byte {
	return append(slices.Clone(b), "spare room"...)[:len(b)]
}

// untouched tells whether the spare room that behind left is as it was.
func untouched(b []byte) bool {
	return string(b[len(b):len(b)+10]) == "spare room"
}

// 9.1: Pack

func TestPack(t *testing.T) {
	for s, want := range map[string][]uint64{
		"":                     {0},
		"ab":                   {2, 0x6261},
		"\x00":                 {1, 0},
		"\xff":                 {1, 0xff},
		"abcdefgh":             {8, 0x6867666564636261},
		"abcdefghi":            {9, 0x6867666564636261, 0x69},
		"\x00\x00\x00\x80":     {4, 0x80000000},
		"1234567\xff\xff":      {9, 0xff37363534333231, 0xff},
		"1234567890123456":     {16, 0x3837363534333231, 0x3635343332313039},
		"1234567890123456\x00": {17, 0x3837363534333231, 0x3635343332313039, 0},
	} {
		if w := Pack([]byte(s)); !slices.Equal(w, want) {
			t.Errorf("Pack(%q): %#x, want %#x", s, w, want)
		}
	}
	if w := Pack(nil); !slices.Equal(w, []uint64{0}) {
		t.Errorf("Pack(nil): %#x", w)
	}
}

// TestPackLibrary holds Pack against the library's way from bytes to words.
func TestPackLibrary(t *testing.T) {
	for n := range 200 {
		b := counted(n)
		full := append(slices.Clone(b), make([]byte, 8)...)
		want := []uint64{uint64(n)}
		for i := 0; i < n; i += 8 {
			want = append(want, binary.LittleEndian.Uint64(full[i:]))
		}
		if w := Pack(b); !slices.Equal(w, want) {
			t.Errorf("Pack of %d bytes: %#x, want %#x", n, w, want)
		}
	}
}

// TestPackGreat: Pack has no bound of its own.
func TestPackGreat(t *testing.T) {
	for _, n := range []int{65535, 65536, 65537, 1 << 20} {
		w := Pack(counted(n))
		if len(w) != Need(n) || w[0] != uint64(n) || w[1] != 0x0807060504030201 {
			t.Error(n, len(w), w[0], w[1])
		}
	}
}

func TestNeed(t *testing.T) {
	for n, want := range map[int]int{
		math.MinInt: 1, -9: 1, -8: 1, -7: 1, -1: 1, 0: 1,
		1: 2, 7: 2, 8: 2, 9: 3, 16: 3, 17: 4, 4096: 513, 65536: 8193,
		math.MaxInt - 7: 1 << 60, math.MaxInt - 6: 1<<60 + 1, math.MaxInt: 1<<60 + 1,
	} {
		if got := Need(n); got != want {
			t.Errorf("Need(%d): %d, want %d", n, got, want)
		}
	}
	for n := range 300 {
		if len(Pack(counted(n))) != Need(n) {
			t.Errorf("Need(%d): %d", n, Need(n))
		}
	}
}

// 9.1: Unpack

func TestUnpackErrors(t *testing.T) {
	most := make([]uint64, Need(65536))
	most[0] = 65536
	for i, c := range []struct {
		w []uint64
		e api.Errno
	}{
		{nil, api.ErrTorn},
		{[]uint64{}, api.ErrTorn},
		{[]uint64{1}, api.ErrTorn},
		{[]uint64{9, 0}, api.ErrTorn},
		{[]uint64{65536}, api.ErrTorn},
		{[]uint64{65536, 0}, api.ErrTorn},
		{most[:len(most)-1], api.ErrTorn},
		{[]uint64{9, math.MaxUint64}, api.ErrTorn},
		{[]uint64{65537}, api.ErrForm},
		{append([]uint64{65537}, most...), api.ErrForm},
		{[]uint64{1 << 31, 0}, api.ErrForm},
		{[]uint64{1 << 32, 0}, api.ErrForm},
		{[]uint64{1<<32 + 1, 5}, api.ErrForm},
		{[]uint64{1 << 63, 0}, api.ErrForm},
		{[]uint64{math.MaxUint64}, api.ErrForm},
		{[]uint64{0, 0}, api.ErrForm},
		{[]uint64{0, 1}, api.ErrForm},
		{[]uint64{8, 1, 0}, api.ErrForm},
		{append(slices.Clone(most), 0), api.ErrForm},
		{[]uint64{1, 0x100}, api.ErrForm},
		{[]uint64{7, 1 << 56}, api.ErrForm},
		{[]uint64{1, 0x100, 0}, api.ErrForm},
	} {
		if b, e := Unpack(c.w); len(b) > 0 || e != c.e {
			t.Error(i, len(b), e, "want", c.e)
		}
	}
}

// TestUnpackFill: each bit behind the last byte counts, each bit of the bytes
// is one of theirs.
func TestUnpackFill(t *testing.T) {
	for n := 1; n <= 24; n++ {
		for bit := range 64 {
			w := Pack(make([]byte, n))
			w[len(w)-1] = 1 << bit
			own := bit < 8*((n-1)%8+1)
			b, e := Unpack(w)
			if own && (e != api.OK || !slices.Equal(Pack(b), w)) || !own && (len(b) > 0 || e != api.ErrForm) {
				t.Errorf("%d bytes, bit %d: %x %v", n, bit, b, e)
			}
		}
	}
}

// TestUnpackCut: no piece of a Pack is one, nor is what has more behind it.
func TestUnpackCut(t *testing.T) {
	for n := range 60 {
		w := Pack(counted(n))
		for i := range len(w) {
			if b, e := Unpack(w[:i]); len(b) > 0 || e != api.ErrTorn {
				t.Error(n, i, e)
			}
		}
		for range 3 {
			w = append(w, 0)
			if b, e := Unpack(w); len(b) > 0 || e != api.ErrForm {
				t.Error(n, len(w), e)
			}
		}
	}
}

// 9.2: Uvar and Var

// numbers are those at each power of two, and beside it.
func numbers() []uint64 {
	l := []uint64{0, 300, math.MaxUint64}
	for i := range 64 {
		l = append(l, 1<<i-1, 1<<i, 1<<i+1)
	}
	return l
}

func TestUvar(t *testing.T) {
	for x, want := range map[uint64]string{
		0: "\x00", 1: "\x01", 127: "\x7f", 128: "\x80\x01", 300: "\xac\x02",
		16383: "\xff\x7f", 16384: "\x80\x80\x01",
		1 << 63:        "\x80\x80\x80\x80\x80\x80\x80\x80\x80\x01",
		1<<63 - 1:      "\xff\xff\xff\xff\xff\xff\xff\xff\x7f",
		math.MaxUint64: "\xff\xff\xff\xff\xff\xff\xff\xff\xff\x01",
	} {
		if got := Uvar(x); string(got) != want {
			t.Errorf("Uvar(%d): %x, want %x", x, got, want)
		}
	}
	for _, x := range numbers() {
		if got, want := Uvar(x), binary.AppendUvarint(nil, x); !bytes.Equal(got, want) {
			t.Errorf("Uvar(%d): %x, want %x", x, got, want)
		}
	}
}

func TestVar(t *testing.T) {
	for _, x := range numbers() {
		b := Uvar(x)
		for _, tail := range []string{"", "\x00", "\x80", "\xff\xff"} {
			y, used, e := Var(append(slices.Clone(b), tail...))
			if y != x || used != len(b) || e != api.OK {
				t.Errorf("Var of %d ahead of %x: %d %d %v", x, tail, y, used, e)
			}
		}
		for i := range b {
			if y, used, e := Var(b[:i]); y != 0 || used != 0 || e != api.ErrTorn {
				t.Errorf("Var of %d cut at %d: %d %d %v", x, i, y, used, e)
			}
		}
	}
}

// TestVarErrors: where several errors apply, it is torn ahead of ill-formed,
// and ill-formed ahead of too great.
func TestVarErrors(t *testing.T) {
	nine, ten := strings.Repeat("\xff", 9), strings.Repeat("\x80", 10)
	for s, want := range map[string]api.Errno{
		"":                          api.ErrTorn,
		"\x80":                      api.ErrTorn,
		"\xff":                      api.ErrTorn,
		nine:                        api.ErrTorn,
		nine + "\x81":               api.ErrTorn,
		nine + "\xff":               api.ErrTorn,
		nine + nine:                 api.ErrTorn,
		ten:                         api.ErrTorn,
		"\x80\x00":                  api.ErrForm,
		"\x80\x00\x01":              api.ErrForm,
		"\xff\x00":                  api.ErrForm,
		"\xff\x80\x00":              api.ErrForm,
		nine + "\x00":               api.ErrForm,
		ten[:9] + "\x00":            api.ErrForm,
		ten + "\x00":                api.ErrForm,
		nine + nine + "\x00":        api.ErrForm,
		nine + "\x02":               api.ErrBig,
		ten[:9] + "\x02":            api.ErrBig,
		nine + "\x03":               api.ErrBig,
		nine + "\x7f":               api.ErrBig,
		nine + "\x7f\x00":           api.ErrBig,
		nine + "\x80\x01":           api.ErrBig,
		nine + "\x81\x01":           api.ErrBig,
		ten + "\x01":                api.ErrBig,
		nine + nine + nine + "\x01": api.ErrBig,
	} {
		if x, used, e := Var([]byte(s)); x != 0 || used != 0 || e != want {
			t.Errorf("Var(%x): %d %d %v, want %v", s, x, used, e, want)
		}
	}
	if x, used, e := Var([]byte("\x00\x00")); x != 0 || used != 1 || e != api.OK {
		t.Error("0 alone", x, used, e)
	}
}

// TestVarOne: what Var tells is the one way to tell it.
func TestVarOne(t *testing.T) {
	r := rand.New(rand.NewSource(9))
	for range 50000 {
		b := random(r, 13)
		x, used, e := Var(b)
		if e == api.OK && !bytes.Equal(Uvar(x), b[:used]) {
			t.Fatalf("Var(%x): %d %d", b, x, used)
		}
		if y, n := binary.Uvarint(b); e == api.OK && (y != x || n != used) || e != api.OK && n > 0 && b[n-1] > 0 {
			t.Fatalf("Var(%x): %d %d %v, the library's %d %d", b, x, used, e, y, n)
		}
	}
}

// 9.2: Join and Split

func TestJoin(t *testing.T) {
	for i, c := range []struct {
		parts [][]byte
		want  string
	}{
		{nil, ""},
		{[][]byte{nil}, "\x00"},
		{[][]byte{{}, nil}, "\x00\x00"},
		{[][]byte{[]byte("ab")}, "\x02ab"},
		{[][]byte{[]byte("ab"), nil, []byte("c")}, "\x02ab\x00\x01c"},
		{[][]byte{{0}, {1}}, "\x01\x00\x01\x01"},
		{[][]byte{counted(127)}, "\x7f" + string(counted(127))},
		{[][]byte{counted(128), {}}, "\x80\x01" + string(counted(128)) + "\x00"},
		{[][]byte{counted(70000)}, "\xf0\xa2\x04" + string(counted(70000))},
	} {
		if got := Join(c.parts...); string(got) != c.want {
			t.Errorf("%d: %.40x, want %.40x", i, got, c.want)
		}
	}
	if len(Join()) != 0 {
		t.Error("Join of nothing", Join())
	}
}

func TestSplitErrors(t *testing.T) {
	nine := strings.Repeat("\xff", 9)
	for s, want := range map[string]api.Errno{
		"\x01":                   api.ErrTorn,
		"\x02a":                  api.ErrTorn,
		"\x80":                   api.ErrTorn,
		"\x80\x01a":              api.ErrTorn,
		"\x01a\x80":              api.ErrTorn,
		"\x01a\x01":              api.ErrTorn,
		"\x00\x05\x00\x00":       api.ErrTorn,
		nine + "\x01a":           api.ErrTorn,
		nine[:8] + "\x7fa":       api.ErrTorn,
		"\x05\x80\x00":           api.ErrTorn,
		"\x80\x00":               api.ErrForm,
		"\x01a\x80\x00":          api.ErrForm,
		"\x00\x81\x00":           api.ErrForm,
		nine + "\x02a":           api.ErrBig,
		"\x02ab" + nine + "\x02": api.ErrBig,
	} {
		if l, e := Split([]byte(s)); len(l) > 0 || e != want {
			t.Errorf("Split(%x): %x %v, want %v", s, l, e, want)
		}
	}
	for _, b := range [][]byte{nil, {}} {
		if l, e := Split(b); len(l) > 0 || e != api.OK {
			t.Errorf("Split of nothing: %x %v", l, e)
		}
	}
}

// TestSplitCut: a Join that is cut is the Join of its first parts, or torn.
func TestSplitCut(t *testing.T) {
	parts := [][]byte{[]byte("ab"), nil, counted(130), {0}, counted(9)}
	b := Join(parts...)
	whole := map[int]int{}
	for n := range len(parts) + 1 {
		whole[len(Join(parts[:n]...))] = n
	}
	for i := range len(b) + 1 {
		l, e := Split(b[:i])
		n, ok := whole[i]
		if ok && (e != api.OK || !slices.EqualFunc(l, parts[:n], bytes.Equal)) || !ok && (len(l) > 0 || e != api.ErrTorn) {
			t.Errorf("cut at %d: %x %v", i, l, e)
		}
	}
}

// 9.3 (W8)

func TestThereAndBack(t *testing.T) {
	r := rand.New(rand.NewSource(93))
	for n := range 3000 {
		b := random(r, 1+n/10)
		if c, e := Unpack(Pack(b)); e != api.OK || !bytes.Equal(b, c) {
			t.Fatalf("Unpack(Pack(%x)): %x %v", b, c, e)
		}
		x := r.Uint64() >> r.Intn(64)
		if y, used, e := Var(Uvar(x)); y != x || used != len(Uvar(x)) || e != api.OK {
			t.Fatalf("Var(Uvar(%d)): %d %d %v", x, y, used, e)
		}
		parts := make([][]byte, r.Intn(8))
		for i := range parts {
			parts[i] = random(r, 1+n/10)
		}
		if l, e := Split(Join(parts...)); e != api.OK || !slices.EqualFunc(l, parts, bytes.Equal) {
			t.Fatalf("Split(Join(%x)): %x %v", parts, l, e)
		}
	}
	for _, n := range []int{4096, 65535, 65536} {
		if c, e := Unpack(Pack(counted(n))); e != api.OK || !bytes.Equal(c, counted(n)) {
			t.Error(n, len(c), e)
		}
	}
	if c, e := Unpack(Pack(counted(65537))); len(c) > 0 || e != api.ErrForm {
		t.Error("beyond the bound", len(c), e)
	}
}

// TestBackAndThere: whatever is read without an error is told again as it was.
func TestBackAndThere(t *testing.T) {
	r := rand.New(rand.NewSource(94))
	split, unpacked := 0, 0
	for range 100000 {
		b := random(r, 12)
		if l, e := Split(b); e == api.OK {
			split++
			if !bytes.Equal(Join(l...), b) {
				t.Fatalf("Join(Split(%x)): %x", b, Join(l...))
			}
		} else if len(l) > 0 {
			t.Fatalf("Split(%x): %x beside %v", b, l, e)
		}
		w := []uint64{uint64(r.Intn(20)), r.Uint64() >> r.Intn(64), r.Uint64() >> r.Intn(64), 0}[:r.Intn(5)]
		if c, e := Unpack(w); e == api.OK {
			unpacked++
			if !slices.Equal(Pack(c), w) {
				t.Fatalf("Pack(Unpack(%x)): %x", w, Pack(c))
			}
		} else if len(c) > 0 {
			t.Fatalf("Unpack(%x): %x beside %v", w, c, e)
		}
	}
	if split < 1000 || unpacked < 1000 {
		t.Error("hardly any was well-formed", split, unpacked)
	}
}

// 9.4

// TestNotChanged: neither what is handed in, nor the spare room behind it.
func TestNotChanged(t *testing.T) {
	r := rand.New(rand.NewSource(95))
	for range 3000 {
		given := random(r, 40)
		b := behind(given)
		Pack(b)
		Split(b)
		Var(b)
		Join(b, b[:len(b)/2], b)
		if !bytes.Equal(b, given) || !untouched(b) {
			t.Fatalf("%x became %x", given, b)
		}
		kept := append(Pack(given), 77, 78)
		w := slices.Clone(kept)
		Unpack(w[:len(w)-2])
		Unpack(w)
		if !slices.Equal(w, kept) {
			t.Fatalf("%x became %x", kept, w)
		}
	}
}

// overwrite writes over all of b, and over its spare room.
func overwrite(b []byte) {
	b = b[:cap(b)]
	for i := range b {
		b[i] = 0xee
	}
}

// TestNewMemory: what is told is written over, and nothing else shows it.
func TestNewMemory(t *testing.T) {
	parts := [][]byte{[]byte("ab"), {}, []byte("cde"), counted(200)}
	b := Join(parts...)
	given := slices.Clone(b)
	l, _ := Split(b)
	if len(l) != len(parts) {
		t.Fatal(len(l))
	}
	for i := range l {
		overwrite(l[i])
		if !slices.EqualFunc(l[i+1:], parts[i+1:], bytes.Equal) || !bytes.Equal(b, given) {
			t.Fatalf("part %d shares memory", i)
		}
	}
	overwrite(Join(b))
	overwrite(Join(b, nil))
	overwrite(Uvar(300))
	w := Pack(b)
	c, _ := Unpack(w)
	overwrite(c)
	if !slices.Equal(w, Pack(given)) || !bytes.Equal(b, given) || string(Uvar(300)) != "\xac\x02" {
		t.Error("what is told shares memory")
	}
	w[1] = 0
	if !bytes.Equal(b, given) {
		t.Error("Pack shares memory")
	}
}
