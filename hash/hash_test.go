package hash

import (
	"hash/fnv"
	"math"
	"math/big"
	"math/bits"
	"math/rand"
	"strings"
	"testing"
)

// told holds words that were worked out apart from the program.
var told = []struct {
	seed uint64
	key  string
	word uint64
}{
	{0, "", 0x2fbf9146fb777a05},
	{1, "", 0xe14cc3aa829123cd},
	{1 << 56, "", 0xb77b4164e83339de},
	{0, "a", 0x905af11a9b99166a},
	{0, "\x00", 0xba8144520879a410},
	{0, "key", 0xaa13f14cb1f1fb07},
	{0x0102030405060708, "key", 0xb41fa3e24b95a851},
	{math.MaxUint64, "\xff\x80é", 0xa88917c7ad6c2190},
	{0, strings.Repeat("k", 1000), 0x3a5f97f9f3e61333},
}

func TestOfTold(t *testing.T) {
	for _, c := range told {
		if got := Of(c.seed, c.key); got != c.word {
			t.Errorf("Of(%#x, %.20q): %#x, want %#x", c.seed, c.key, got, c.word)
		}
	}
}

// TestOfLibrary holds Of against the library's FNV-1a.
func TestOfLibrary(t *testing.T) {
	r := rand.New(rand.NewSource(5))
	for range 3000 {
		seed := r.Uint64() >> r.Intn(64)
		key := make([]byte, r.Intn(40))
		r.Read(key)
		f := fnv.New64a()
		for i := range 8 {
			f.Write([]byte{byte(seed >> (8 * i))})
		}
		f.Write(key)
		if got, want := Of(seed, string(key)), Mix(f.Sum64()); got != want {
			t.Fatalf("Of(%#x, %q): %#x, want %#x", seed, key, got, want)
		}
	}
}

// TestOfApart: each byte of the seed and of the key counts, in its place.
func TestOfApart(t *testing.T) {
	seen := map[uint64]int{Of(0, "abcdefgh"): -1}
	for i := range 64 {
		changed := []byte("abcdefgh")
		changed[i/8] ^= 1 << (i % 8)
		for _, h := range []uint64{Of(1<<i, "abcdefgh"), Of(0, string(changed))} {
			if j, met := seen[h]; met {
				t.Errorf("bit %d meets bit %d", i, j)
			}
			seen[h] = i
		}
	}
	if Of(0, "ab") == Of(0, "ba") || Of(0x0102, "") == Of(0x0201, "") {
		t.Error("the order of the bytes does not count")
	}
}

// mixed works Mix out in whole numbers of any size, cut to 64 bits at the end
// of each product.
func mixed(x uint64) uint64 {
	spread, _ := new(big.Int).SetString("d6e8feb86659fd93", 16)
	room := new(big.Int).Lsh(big.NewInt(1), 64)
	v := new(big.Int).SetUint64(x)
	for range 2 {
		v.Xor(v, new(big.Int).Rsh(v, 32))
		v.Mul(v, spread).Mod(v, room)
	}
	return v.Xor(v, new(big.Int).Rsh(v, 32)).Uint64()
}

func TestMix(t *testing.T) {
	for x, want := range map[uint64]uint64{
		0: 0, 1: 0x4179b061e0c0e0d0, 2: 0x1c9963305febc252,
		1 << 32: 0xa04a6aae1526eda6, 1 << 63: 0x72446bbcf6c799d7,
		math.MaxUint64:     0x448e29ced4103459,
		0x0123456789abcdef: 0x3efdea49c590f4ec,
	} {
		if got := Mix(x); got != want {
			t.Errorf("Mix(%#x): %#x, want %#x", x, got, want)
		}
	}
	r := rand.New(rand.NewSource(6))
	for range 3000 {
		x := r.Uint64() >> r.Intn(64)
		if got, want := Mix(x), mixed(x); got != want {
			t.Fatalf("Mix(%#x): %#x, want %#x", x, got, want)
		}
	}
}

// unmix goes Mix's steps back; a word that comes back is no other's.
func unmix(y uint64) uint64 {
	const back = 0xcfee444d8b59a89b // times spread: 1 in 64 bits
	y = (y ^ y>>32) * back
	y = (y ^ y>>32) * back
	return y ^ y>>32
}

func TestMixUnlike(t *testing.T) {
	back := func(x uint64) {
		t.Helper()
		if got := unmix(Mix(x)); got != x {
			t.Fatalf("%#x comes back as %#x", x, got)
		}
		if got := Mix(unmix(x)); got != x {
			t.Fatalf("%#x is mixed as %#x", x, got)
		}
	}
	for i := range 64 {
		back(1 << i)
		back(^uint64(0) << i)
		back(^uint64(0) >> i)
	}
	r := rand.New(rand.NewSource(7))
	for range 10000 {
		back(r.Uint64())
	}
	seen := map[uint64]uint64{}
	for x := range uint64(20000) {
		for _, w := range []uint64{x, x<<44 | 1<<63} {
			if first, met := seen[Mix(w)]; met && first != w {
				t.Fatalf("%#x and %#x meet", first, w)
			}
			seen[Mix(w)] = w
		}
	}
}

func TestPrefix(t *testing.T) {
	const h = 0xabcdef0123456789
	for _, c := range []struct {
		h     uint64
		depth int
		want  int
	}{
		{1 << 63, 1, 1}, {1<<63 - 1, 1, 0}, {h, 1, 1}, {h, 2, 2}, {h, 3, 5}, {h, 4, 0xa},
		{h, 8, 0xab}, {h, 15, 0x55e6}, {h, 16, 0xabcd}, {h, 17, 0xabcd}, {h, 64, 0xabcd},
		{h, 65, 0xabcd}, {h, math.MaxInt, 0xabcd}, {h, 0, 0}, {h, -1, 0}, {h, -64, 0},
		{h, math.MinInt, 0}, {0, 16, 0}, {math.MaxUint64, 16, 0xffff}, {math.MaxUint64, math.MaxInt, 0xffff},
	} {
		if got := Prefix(c.h, c.depth); got != c.want {
			t.Errorf("Prefix(%#x, %d): %#x, want %#x", c.h, c.depth, got, c.want)
		}
	}
}

// TestPrefixBits builds each prefix up bit by bit, from the uppermost.
func TestPrefixBits(t *testing.T) {
	r := rand.New(rand.NewSource(8))
	for range 500 {
		h, want := r.Uint64(), 0
		for depth := range 17 {
			if depth > 0 {
				want = 2*want + int(bits.Reverse64(h)>>(depth-1)&1)
			}
			if got := Prefix(h, depth); got != want {
				t.Fatalf("Prefix(%#x, %d): %#x, want %#x", h, depth, got, want)
			}
		}
	}
}

// TestNoPanic: whatever the calls are given, they answer, and the same again.
func TestNoPanic(t *testing.T) {
	words := []uint64{0, 1, 1 << 31, 1 << 32, 1 << 63, math.MaxUint64}
	keys := []string{"", "\x00", "\xff\xfe", "é", strings.Repeat("\x80", 1<<16)}
	depths := []int{math.MinInt, -65, -1, 0, 1, 15, 16, 17, 63, 64, 65, 1 << 32, 1<<32 + 1, math.MaxInt}
	for _, w := range words {
		if Mix(w) != Mix(w) {
			t.Errorf("Mix(%#x) changes", w)
		}
		for _, k := range keys {
			if Of(w, k) != Of(w, k) {
				t.Errorf("Of(%#x, %.20q) changes", w, k)
			}
		}
		for _, d := range depths {
			if p := Prefix(w, d); p < 0 || p > 0xffff {
				t.Errorf("Prefix(%#x, %d): %d", w, d, p)
			}
		}
	}
}
