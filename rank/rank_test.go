package rank

import (
	"fmt"
	"maps"
	"math"
	"math/rand"
	"slices"
	"strings"
	"testing"

	"reliquary/api"
	"reliquary/heap"
	"reliquary/num"
	"reliquary/nvm"
	"reliquary/order"
	"reliquary/rec"
	"reliquary/tree"
	"reliquary/tx"
)

var (
	inf   = math.Inf(1)
	minus = math.Copysign(0, -1) // minus nought
	nan   = math.NaN()
)

// edges are numbers of all kinds, in the order of Cmp.
var edges = []float64{
	-inf, -math.MaxFloat64, -3, -1 - 0x1p-52, -1, -0x1p-1022, -math.SmallestNonzeroFloat64, minus,
	0, math.SmallestNonzeroFloat64, 0x1p-1022, 1, 1 + 0x1p-52, 3, math.MaxFloat64, inf,
}

// panicked is what f panics with; nil if it does not.
func panicked(f func()) (v any) {
	defer func() { v = recover() }()
	f()
	return nil
}

// device is one whose store has so many words.
func device(t *testing.T, size int) *nvm.Device {
	t.Helper()
	d, e := nvm.New(12400 + size)
	if e != api.OK {
		t.Fatal("New", size, e)
	}
	return d
}

// opened is the store of a device, and its heap.
func opened(t *testing.T, d *nvm.Device) (*tx.Store, *heap.Heap) {
	t.Helper()
	s, e := tx.Open(d)
	if e != api.OK {
		t.Fatal("tx.Open", e)
	}
	h, e := heap.Open(s)
	if e != api.OK {
		t.Fatal("heap.Open", e)
	}
	return s, h
}

// fresh is a store of so many words and its heap, which is empty.
func fresh(t *testing.T, size int) (*tx.Store, *heap.Heap) {
	t.Helper()
	return opened(t, device(t, size))
}

func reading(s *tx.Store) []uint64 {
	l := make([]uint64, s.Size())
	for i := range l {
		l[i] = s.Load(i)
	}
	return l
}

// ahead tells whether a stands ahead of b.
func ahead(a, b Scored) bool {
	c := num.Cmp(a.Score, b.Score)
	return c < 0 || c == 0 && a.Name < b.Name
}

// ranked are the members of a plain map, in their order.
func ranked(m map[string]float64) []Scored {
	var l []Scored
	for name, x := range m {
		l = append(l, Scored{name, x})
	}
	slices.SortFunc(l, func(a, b Scored) int {
		if ahead(a, b) {
			return -1
		}
		return 1
	})
	return l
}

// within are the first n of those whose score is not below lo and not above hi.
func within(l []Scored, lo, hi float64, n int) []Scored {
	var some []Scored
	for _, m := range l {
		if len(some) < n && num.Cmp(m.Score, lo) >= 0 && num.Cmp(m.Score, hi) <= 0 {
			some = append(some, m)
		}
	}
	return some
}

// alike tells whether two lists are the same to the bit.
func alike(a, b []Scored) bool {
	return slices.EqualFunc(a, b, func(a, b Scored) bool {
		return a.Name == b.Name && math.Float64bits(a.Score) == math.Float64bits(b.Score)
	})
}

// mustTell checks that a root tells the members of m, by each of the calls.
func mustTell(t *testing.T, s *tx.Store, r Root, m map[string]float64) {
	t.Helper()
	want := ranked(m)
	if got := Range(s, r, -inf, inf, math.MaxInt); !alike(got, want) {
		t.Fatalf("Range of %v: %.200v, want %.200v", r, got, want)
	}
	for i, w := range want {
		if x, there := Get(s, r, w.Name); math.Float64bits(x) != math.Float64bits(w.Score) || !there {
			t.Fatalf("Get of %v %.90q: %v %v, want %v", r, w.Name, x, there, w.Score)
		}
		if i%7 != 0 && i != len(want)-1 {
			continue
		}
		if n, there := Place(s, r, w.Name); n != i || !there {
			t.Fatalf("Place of %v %.90q: %d %v, want %d", r, w.Name, n, there, i)
		}
	}
	if Len(s, r) != len(m) || (r == Root{}) != (len(m) == 0) {
		t.Fatal("Len", Len(s, r), len(m), r)
	}
	if tree.Check(s, r.ByName) != api.OK || tree.Check(s, r.ByScore) != api.OK {
		t.Fatal("Check", tree.Check(s, r.ByName), tree.Check(s, r.ByScore))
	}
}

// mustHave checks that the pieces of the roots are all that is taken.
func mustHave(t *testing.T, s *tx.Store, h *heap.Heap, roots ...Root) {
	t.Helper()
	var all []int
	for _, r := range roots {
		l := Pieces(s, h, r)
		for i := range l {
			if i > 0 && l[i-1] >= l[i] {
				t.Fatal("Pieces do not rise", l)
			}
		}
		all = append(all, l...)
	}
	slices.Sort(all)
	if !slices.Equal(slices.Compact(all), h.Pieces()) || h.Check() != api.OK {
		t.Fatal("Pieces", all, h.Pieces(), h.Check())
	}
}

// giveUp gives back the pieces of an old root that none of the roots kept has.
func giveUp(s *tx.Store, h *heap.Heap, old Root, kept ...Root) {
	var l []int
	for _, r := range kept {
		l = append(l, Pieces(s, h, r)...)
	}
	slices.Sort(l)
	for _, at := range Pieces(s, h, old) {
		if _, there := slices.BinarySearch(l, at); !there {
			h.Give(at)
		}
	}
}

// made is a ranking of the members, and nothing else on its heap.
func made(s *tx.Store, h *heap.Heap, l ...Scored) Root {
	r := Root{}
	for _, m := range l {
		next := Set(s, h, r, m.Name, m.Score)
		giveUp(s, h, r, next)
		r = next
		s.Commit()
	}
	return r
}

// numbered are n members whose names have so many bytes, the number at their end, with scores that do not rise as names do.
func numbered(n, long int) []Scored {
	var l []Scored
	for i := range n {
		l = append(l, Scored{fmt.Sprintf("%0*d", long, i), float64(i*37%n) / 4})
	}
	return l
}

func asMap(l []Scored) map[string]float64 {
	m := map[string]float64{}
	for _, s := range l {
		m[s.Name] = s.Score
	}
	return m
}

// call is one of the calls on a root.
type call struct {
	name string
	f    func()
}

// onRoot are all calls that read or change what stands under a root.
func onRoot(s *tx.Store, h *heap.Heap, r Root, name string) []call {
	return []call{
		{"Set", func() { Set(s, h, r, name, -7) }},
		{"Set another", func() { Set(s, h, r, "0"+name[1:], 2) }},
		{"Unset", func() { Unset(s, h, r, name) }},
		{"Get", func() { Get(s, r, name) }},
		{"Range", func() { Range(s, r, -inf, nan, math.MaxInt) }},
		{"Place", func() { Place(s, r, name) }},
		{"Len", func() { Len(s, r) }},
		{"Pieces", func() { Pieces(s, h, r) }},
	}
}

// 14.1

func TestExample(t *testing.T) {
	s, h := fresh(t, 4096)
	a := Set(s, h, Root{}, "a", 0)
	b := Set(s, h, a, "b", minus)
	if l := Range(s, b, -inf, inf, 9); !alike(l, []Scored{{"b", minus}, {"a", 0}}) {
		t.Error(l)
	}
	mustTell(t, s, a, map[string]float64{"a": 0})
	mustTell(t, s, Root{}, nil)
	mustHave(t, s, h, a, b)
}

func TestTheEmptyRanking(t *testing.T) {
	s, h := fresh(t, 1024)
	mustTell(t, s, Root{}, nil)
	mustHave(t, s, h, Root{})
	for _, name := range []string{"", "a", strings.Repeat("x", 64), strings.Repeat("x", 65), strings.Repeat("x", 999)} {
		if x, there := Get(s, Root{}, name); x != 0 || there {
			t.Error(x, there)
		}
		if n, there := Place(s, Root{}, name); n != 0 || there {
			t.Error(n, there)
		}
		if r, there := Unset(s, h, Root{}, name); r != (Root{}) || there {
			t.Error(r, there)
		}
	}
	if s.Pending() != 0 {
		t.Error(s.Pending())
	}
}

func TestLengthsOfNames(t *testing.T) {
	s, h := fresh(t, 16000)
	r, want := Root{}, map[string]float64{}
	for n := 1; n <= 64; n++ {
		name := strings.Repeat("n", n)
		want[name] = float64(n % 5)
		next := Set(s, h, r, name, want[name])
		giveUp(s, h, r, next)
		r = next
		s.Commit()
	}
	mustTell(t, s, r, want)
	mustHave(t, s, h, r)
	for _, name := range []string{"", strings.Repeat("n", 65), strings.Repeat("n", 80), strings.Repeat("n", 81), strings.Repeat("n", 5000)} {
		for _, x := range []float64{1, nan} {
			if v := panicked(func() { Set(s, h, r, name, x) }); v != api.ErrArg {
				t.Error(len(name), x, v)
			}
		}
		if x, there := Get(s, r, name); x != 0 || there {
			t.Error(len(name), x, there)
		}
		if n, there := Place(s, r, name); n != 0 || there {
			t.Error(len(name), n, there)
		}
		if next, there := Unset(s, h, r, name); next != r || there {
			t.Error(len(name), next, there)
		}
	}
	if s.Pending() != 0 {
		t.Error(s.Pending())
	}
}

func TestNoNumber(t *testing.T) {
	s, h := fresh(t, 4096)
	r := made(s, h, Scored{"a", 1})
	for _, bits := range []uint64{math.Float64bits(nan), 0x7FF0000000000001, 0xFFF8000000000000, math.MaxUint64, 0xFFF0000000000001} {
		for _, name := range []string{"a", "b", strings.Repeat("x", 64)} {
			if v := panicked(func() { Set(s, h, r, name, math.Float64frombits(bits)) }); v != api.ErrNaN {
				t.Errorf("%x %v", bits, v)
			}
		}
	}
	// Though nothing else about the call is right.
	if v := panicked(func() { Set(s, h, Root{12345, 12345}, "a", nan) }); v != api.ErrNaN {
		t.Error(v)
	}
	if v := panicked(func() { Set(s, h, Root{12345, 12345}, "", nan) }); v != api.ErrArg {
		t.Error(v)
	}
	if s.Pending() != 0 {
		t.Error(s.Pending())
	}
	mustTell(t, s, r, map[string]float64{"a": 1})
}

// W7: each number is told to the bit, and stands where Cmp has it.
func TestEdgesOfNumbers(t *testing.T) {
	s, h := fresh(t, 16000)
	r, want := Root{}, map[string]float64{}
	for i := range edges {
		i = i * 5 % len(edges)
		for _, name := range []string{"b", "a"} {
			name = fmt.Sprint(name, i)
			want[name] = edges[i]
			next := Set(s, h, r, name, edges[i])
			giveUp(s, h, r, next)
			r = next
		}
	}
	mustTell(t, s, r, want)
	mustHave(t, s, h, r)
	l := Range(s, r, -inf, inf, 999)
	for i, x := range edges {
		for k, first := range []string{"a", "b"} {
			m := l[2*i+k]
			if m.Name != fmt.Sprint(first, i) || math.Float64bits(m.Score) != math.Float64bits(x) {
				t.Error(i, m, x)
			}
		}
	}
}

// Each number goes to each other, and to itself.
func TestSetAnew(t *testing.T) {
	for _, others := range []int{0, 1, 40} {
		s, h := fresh(t, 8192)
		l := numbered(others, 9)
		for _, from := range edges {
			for _, to := range edges {
				r := made(s, h, append(l, Scored{"m", from})...)
				next := Set(s, h, r, "m", to)
				want := asMap(l)
				want["m"] = from
				mustTell(t, s, r, want)
				want["m"] = to
				mustTell(t, s, next, want)
				mustHave(t, s, h, r, next)
				giveUp(s, h, r, next)
				giveUp(s, h, next)
				s.Commit()
			}
			if others > 1 && from > 0 {
				break
			}
		}
		if h.Free() != h.All() {
			t.Error(h.Free(), h.All())
		}
	}
}

func TestUnset(t *testing.T) {
	s, h := fresh(t, 12000)
	l := numbered(60, 30)
	want := asMap(l)
	r := made(s, h, l...)
	for _, name := range []string{"", "x", l[0].Name[:29], l[0].Name + "0", strings.Repeat("x", 65)} {
		if next, there := Unset(s, h, r, name); next != r || there || s.Pending() != 0 {
			t.Error(name, next, there)
		}
	}
	for i := range l {
		m := l[i*7%len(l)]
		next, there := Unset(s, h, r, m.Name)
		if !there {
			t.Fatal(m)
		}
		mustTell(t, s, r, want)
		delete(want, m.Name)
		mustTell(t, s, next, want)
		mustHave(t, s, h, r, next)
		giveUp(s, h, r, next)
		s.Commit()
		if again, there := Unset(s, h, next, m.Name); again != next || there {
			t.Fatal(m, again, there)
		}
		if x, there := Get(s, next, m.Name); x != 0 || there {
			t.Fatal(m, x, there)
		}
		if n, there := Place(s, next, m.Name); n != 0 || there {
			t.Fatal(m, n, there)
		}
		r = next
	}
	if r != (Root{}) || h.Free() != h.All() {
		t.Error(r, h.Free(), h.All())
	}
}

// From each number to each, and to and from what is none.
func TestFromAndTo(t *testing.T) {
	s, h := fresh(t, 16000)
	var l []Scored
	for i, x := range edges {
		if i%3 != 1 {
			l = append(l, Scored{fmt.Sprint("z", i), x}, Scored{fmt.Sprint("a", i), x}, Scored{string([]byte{255, byte(i)}), x})
		}
	}
	r := made(s, h, l...)
	all := ranked(asMap(l))
	bounds := append(slices.Clone(edges), nan, math.Float64frombits(0xFFF8000000000001), 0.5, -0.5, 1e300)
	for _, lo := range bounds {
		for _, hi := range bounds {
			for _, n := range []int{math.MinInt, -1, 0, 1, 2, 5, len(all) - 1, len(all), len(all) + 1, math.MaxInt} {
				if got := Range(s, r, lo, hi, n); !alike(got, within(all, lo, hi, n)) {
					t.Fatal(lo, hi, n, got, within(all, lo, hi, n))
				}
			}
		}
	}
	if s.Pending() != 0 {
		t.Error(s.Pending())
	}
}

// Names have any bytes, and stand by them, whatever the scores' bytes are.
func TestNamesOfAllKinds(t *testing.T) {
	s, h := fresh(t, 32000)
	names := []string{
		"\x00", "\x00\x00", "\x00\x01", "\x00\xff", "\x01", "a", "a\x00", "a\x00b", "aa", "ab", "\x7f", "\x80", "ä", "\xff", "\xff\x00", "\xff\xff",
		strings.Repeat("\xff", 64), strings.Repeat("\x00", 64), strings.Repeat("a", 64), strings.Repeat("a", 63), order.Score(1), order.Key(1, "a"),
	}
	r, want := Root{}, map[string]float64{}
	for i, name := range names {
		want[name] = edges[i%2*8+i%3]
		next := Set(s, h, r, name, want[name])
		giveUp(s, h, r, next)
		r = next
	}
	mustTell(t, s, r, want)
	for i, m := range ranked(want) {
		if n, there := Place(s, r, m.Name); n != i || !there {
			t.Errorf("%q %d %v, want %d", m.Name, n, there, i)
		}
	}
	mustHave(t, s, h, r)
}

func TestPlace(t *testing.T) {
	s, h := fresh(t, 40000)
	l := numbered(200, 12)
	r := made(s, h, l...)
	for i, m := range ranked(asMap(l)) {
		if n, there := Place(s, r, m.Name); n != i || !there {
			t.Fatal(m, n, there, i)
		}
	}
	for _, name := range []string{"", "0", "x", strings.Repeat("0", 64), strings.Repeat("0", 65)} {
		if n, there := Place(s, r, name); n != 0 || there {
			t.Error(name, n, there)
		}
	}
	if s.Pending() != 0 {
		t.Error(s.Pending())
	}
}

// Pieces are those of both trees, and none is nobody's.
func TestPieces(t *testing.T) {
	s, h := fresh(t, 20000)
	l := numbered(80, 25)
	r := made(s, h, l...)
	want := slices.Concat(tree.Pieces(s, h, r.ByName), tree.Pieces(s, h, r.ByScore))
	slices.Sort(want)
	if got := Pieces(s, h, r); !slices.Equal(got, want) || !slices.Equal(got, h.Pieces()) || len(got) < 8 {
		t.Error(got, want, h.Pieces())
	}
	if got := Pieces(s, h, Root{r.ByName, r.ByName}); !slices.Equal(got, tree.Pieces(s, h, r.ByName)) {
		t.Error("each once", got)
	}
	if got := Pieces(s, h, Root{}); len(got) != 0 {
		t.Error(got)
	}
	if s.Pending() != 0 {
		t.Error(s.Pending())
	}
}

// What a change takes is what the new root has and the old one has not: the two share the rest.
func TestShared(t *testing.T) {
	s, h := fresh(t, 40000)
	l := numbered(200, 20)
	r := made(s, h, l...)
	before := reading(s)
	was := Pieces(s, h, r)
	for name, next := range map[string]Root{
		"anew":    Set(s, h, r, l[100].Name, 1000),
		"another": Set(s, h, r, "another", 3.5),
	} {
		own := without(Pieces(s, h, next), was)
		if len(own) < 4 || len(own) > 20 {
			t.Error(name, len(own), len(was))
		}
		for _, at := range was {
			for i := range h.Size(at) {
				if s.Load(at+i) != before[at+i] {
					t.Fatal(name, at)
				}
			}
		}
	}
	s.Abort()
	if !slices.Equal(reading(s), before) {
		t.Error("Abort")
	}
}

// The same score again is no change, so that nothing is taken for it.
func TestTheSameScore(t *testing.T) {
	s, h := fresh(t, 8192)
	l := numbered(30, 20)
	r := made(s, h, l...)
	for _, m := range l {
		next := Set(s, h, r, m.Name, m.Score)
		mustTell(t, s, next, asMap(l))
		mustHave(t, s, h, r, next)
	}
	if s.Pending() != 0 {
		t.Error(s.Pending())
	}
}

// Ways: the tree by scores has keys of the score and the name, by order.
func TestKeysOfScores(t *testing.T) {
	s, h := fresh(t, 8192)
	var l []Scored
	for i, x := range edges {
		l = append(l, Scored{fmt.Sprint("m", i), x})
	}
	r := made(s, h, l...)
	i := 0
	for p := range tree.Walk(s, r.ByScore, "") {
		if p.Key != order.Key(l[i].Score, l[i].Name) {
			t.Errorf("%q %v", p.Key, l[i])
		}
		i++
	}
	if i != len(l) {
		t.Error(i)
	}
}

// Of a heap that is full each call has changed nothing; the room that it needs is a few nodes.
func TestFull(t *testing.T) {
	s, h := fresh(t, 5000)
	l := numbered(40, 20)
	r := made(s, h, l...)
	s.Commit()
	told := map[string]int{}
	for _, left := range append([]int{0, 8, 16, 24, 32, 40, 48, 56, 64}, slices.Collect(rangeOf(72, 900, 24))...) {
		free := h.Free()
		for h.Free() > left {
			size := 1
			if h.Free()-left >= 16 {
				size = 9
			}
			if h.Free()-left >= 600 {
				size = 256
			}
			if panicked(func() { h.Take(size) }) != nil {
				h.Take(1)
			}
		}
		if h.Free() > left {
			t.Fatal(left, free, h.Free())
		}
		for _, c := range onRoot(s, h, r, l[7].Name) {
			was, before := h.Free(), h.Pieces()
			v := panicked(c.f)
			if v != nil && v != api.ErrFull {
				t.Fatal(left, c.name, v)
			}
			if v == nil {
				told[c.name+" done"]++
			} else {
				told[c.name+" full"]++
				if h.Free() != was || !slices.Equal(before, h.Pieces()) || h.Check() != api.OK {
					t.Fatal(left, c.name, was, h.Free(), h.Check())
				}
			}
			for _, at := range without(h.Pieces(), before) {
				h.Give(at)
			}
		}
		mustTell(t, s, r, asMap(l))
		s.Abort()
	}
	for _, c := range onRoot(s, h, r, l[7].Name) {
		changes := strings.Contains(c.name, "et") && c.name != "Get"
		if told[c.name+" done"] == 0 || (told[c.name+" full"] > 0) != changes {
			t.Error(c.name, told)
		}
	}
	mustHave(t, s, h, r)
}

// rangeOf are the numbers from one on and below another, by steps.
func rangeOf(from, to, step int) func(func(int) bool) {
	return func(yield func(int) bool) {
		for i := from; i < to && yield(i); i += step {
		}
	}
}

// A change that needs more words than the transaction has left is a panic with api.ErrBig.
func TestATransactionThatIsNearlyTooGreat(t *testing.T) {
	s, h := fresh(t, 20000)
	l := numbered(60, 20)
	r := made(s, h, l...)
	told := map[any]int{}
	for left := 0; left < 400; left += 7 {
		for i := range api.MaxWrites - left {
			s.Put(s.Size()/2+i, uint64(i))
		}
		var next Root
		v := panicked(func() { next = Set(s, h, r, l[5].Name, 99) })
		told[v]++
		if v == nil {
			want := asMap(l)
			want[l[5].Name] = 99
			mustTell(t, s, next, want)
		}
		s.Abort()
		mustTell(t, s, r, asMap(l))
		mustHave(t, s, h, r)
	}
	if told[nil] == 0 || told[api.ErrBig] == 0 || len(told) != 2 {
		t.Error(told)
	}
}

// Eight changes of one transaction, each of which gives back what is no longer wanted, have room in it.
func TestWordsOfAChange(t *testing.T) {
	s, h := fresh(t, 53136)
	r := rand.New(rand.NewSource(8))
	root, want := Root{}, map[string]float64{}
	most := 0
	for range 1500 {
		name := strings.Repeat("n", r.Intn(54)) + fmt.Sprint(r.Intn(400))
		want[name] = r.NormFloat64()
		next := Set(s, h, root, name, want[name])
		giveUp(s, h, root, next)
		root = next
		most = max(most, s.Pending())
		s.Commit()
	}
	mustTell(t, s, root, want)
	if most*8 > api.MaxWrites {
		t.Error(most)
	}
}

// 14.2, W4

// held is a root, and what it is to tell.
type held struct {
	root Root
	want map[string]float64
}

// run is a long run by lot on several roots at once.
type run struct {
	t    *testing.T
	d    *nvm.Device
	s    *tx.Store
	h    *heap.Heap
	r    *rand.Rand
	name func(r *rand.Rand) string
	all  []held
	last []held // as committed
}

// score is one of few, so that many members have the same.
func (x *run) score() float64 {
	if x.r.Intn(3) == 0 {
		return x.r.NormFloat64()
	}
	return edges[x.r.Intn(len(edges))]
}

// change makes another root out of one of them.
func (x *run) change() {
	from := x.all[x.r.Intn(len(x.all))]
	to := held{want: maps.Clone(from.want)}
	name, score := x.name(x.r), x.score()
	if l := ranked(from.want); len(l) > 0 && x.r.Intn(2) == 0 {
		name = l[x.r.Intn(len(l))].Name
	}
	before := x.h.Pieces()
	p := panicked(func() {
		if x.r.Intn(5) < 3 {
			to.root = Set(x.s, x.h, from.root, name, score)
			to.want[name] = score
			return
		}
		there := false
		to.root, there = Unset(x.s, x.h, from.root, name)
		if _, is := from.want[name]; is != there || !is && to.root != from.root {
			x.t.Fatalf("Unset %q: %v", name, there)
		}
		delete(to.want, name)
	})
	if p == api.ErrFull && slices.Equal(before, x.h.Pieces()) {
		x.forget()
		return
	}
	if p != nil {
		x.t.Fatal(p)
	}
	x.all = append(x.all, to)
	if len(x.all) > 6 {
		x.forget()
	}
}

// forget gives up one of the roots.
func (x *run) forget() {
	i := x.r.Intn(len(x.all))
	old := x.all[i].root
	x.all = slices.Delete(slices.Clone(x.all), i, i+1)
	if len(x.all) == 0 {
		x.all = []held{{Root{}, map[string]float64{}}}
	}
	giveUp(x.s, x.h, old, x.roots()...)
}

func (x *run) roots() []Root {
	var l []Root
	for _, a := range x.all {
		l = append(l, a.root)
	}
	return l
}

// end ends a transaction.
func (x *run) end() {
	switch x.r.Intn(6) {
	case 0:
		x.s.Abort()
		x.all = slices.Clone(x.last)
	case 1:
		x.d.Power(false, nil)
		x.s, x.h = opened(x.t, x.d)
		x.all = slices.Clone(x.last)
	default:
		x.s.Commit()
		x.last = slices.Clone(x.all)
	}
}

// look holds all that the roots tell against what they are to.
func (x *run) look() {
	mustHave(x.t, x.s, x.h, x.roots()...)
	for _, a := range x.all {
		mustTell(x.t, x.s, a.root, a.want)
		lo, hi, n := x.score(), x.score(), x.r.Intn(9)
		if got := Range(x.s, a.root, lo, hi, n); !alike(got, within(ranked(a.want), lo, hi, n)) {
			x.t.Fatal(lo, hi, n, got)
		}
	}
}

// families are names of several kinds.
var families = map[string]func(r *rand.Rand) string{
	"few":    func(r *rand.Rand) string { return fmt.Sprint(r.Intn(12)) },
	"many":   func(r *rand.Rand) string { return fmt.Sprint(r.Intn(2000)) },
	"long":   func(r *rand.Rand) string { return strings.Repeat("long", 15) + fmt.Sprintf("%04d", r.Intn(300)) },
	"uneven": func(r *rand.Rand) string { return strings.Repeat("\xff", 1+r.Intn(64)) },
	"bytes": func(r *rand.Rand) string {
		b := make([]byte, 1+r.Intn(64))
		r.Read(b)
		return string(b)
	},
}

// However other roots came from it, and went, each root tells what it told; nothing but what hangs on the roots is taken.
func TestLongRuns(t *testing.T) {
	for name, f := range families {
		for seed := range int64(3) {
			d := device(t, []int{1400, 4000, 12000}[seed])
			x := &run{t: t, d: d, r: rand.New(rand.NewSource(seed)), name: f}
			x.s, x.h = opened(t, d)
			x.all = []held{{Root{}, map[string]float64{}}}
			x.last = slices.Clone(x.all)
			for i := range 400 {
				x.change()
				if x.s.Pending() > 4000 || x.r.Intn(3) == 0 {
					x.end()
				}
				if i%10 == 0 {
					x.look()
				}
			}
			if t.Failed() {
				t.Fatal(name, seed)
			}
		}
	}
}

// A store as great as can be, with as many members as it has room for.
func TestMany(t *testing.T) {
	s, h := fresh(t, 53136)
	r, want := Root{}, map[string]float64{}
	for i := 0; ; i++ {
		name := fmt.Sprintf("member %050d", i*7919%100000)
		x := float64(i * 31 % 101)
		next := r
		if v := panicked(func() { next = Set(s, h, r, name, x) }); v != nil {
			if v != api.ErrFull {
				t.Fatal(v)
			}
			break
		}
		want[name] = x
		giveUp(s, h, r, next)
		r = next
		s.Commit()
	}
	if len(want) < 900 {
		t.Error(len(want))
	}
	mustTell(t, s, r, want)
	mustHave(t, s, h, r)
}

// W2: the power goes at each step of one change after the other, whatever is kept: what stands behind it is the ranking with the change, or without it, and the old one beside it.
func TestALossAtEachStep(t *testing.T) {
	d := device(t, 2400)
	s, h := opened(t, d)
	root := func(h *heap.Heap, i int) Root { return Root{h.Root(i), h.Root(i + 1)} }
	keep := func(h *heap.Heap, i int, r Root) {
		h.SetRoot(i, r.ByName)
		h.SetRoot(i+1, r.ByScore)
	}
	l := numbered(10, 40)
	if e := s.Do(func() { keep(h, 0, made(s, h, l...)) }); e != api.OK {
		t.Fatal(e)
	}
	want := asMap(l)
	for n, change := range []func(s *tx.Store, h *heap.Heap, r Root, m map[string]float64) Root{
		func(s *tx.Store, h *heap.Heap, r Root, m map[string]float64) Root {
			m["new"] = minus
			return Set(s, h, r, "new", minus)
		},
		func(s *tx.Store, h *heap.Heap, r Root, m map[string]float64) Root {
			delete(m, l[3].Name)
			next, _ := Unset(s, h, r, l[3].Name)
			return next
		},
		func(s *tx.Store, h *heap.Heap, r Root, m map[string]float64) Root {
			m[l[5].Name] = -inf
			return Set(s, h, r, l[5].Name, -inf)
		},
	} {
		s, h := opened(t, d)
		old := root(h, 0)
		after := map[string]float64{}
		steps := func(s *tx.Store, h *heap.Heap) func() {
			return func() {
				clear(after)
				maps.Copy(after, want)
				next := change(s, h, root(h, 0), after)
				giveUp(s, h, root(h, 2), root(h, 0), next)
				keep(h, 2, root(h, 0))
				keep(h, 0, next)
			}
		}
		for k := 0; ; k++ {
			c := d.Copy()
			s, h := opened(t, c)
			c.Fuse(k)
			e := s.Do(steps(s, h))
			if e == api.OK {
				break
			}
			if e != api.ErrDead {
				t.Fatal(n, k, e)
			}
			var kept []int
			for i, w := range c.Waiting() {
				if i%3 == k%3 {
					kept = append(kept, w)
				}
			}
			c.Power(k%2 == 0, kept)
			s, h = opened(t, c)
			mustHave(t, s, h, root(h, 0), root(h, 2))
			if root(h, 0) == old {
				mustTell(t, s, old, want)
				continue
			}
			mustTell(t, s, root(h, 0), after)
			mustTell(t, s, root(h, 2), want)
		}
		if e := s.Do(steps(s, h)); e != api.OK {
			t.Fatal(n, e)
		}
		want = after
	}
}

func TestDead(t *testing.T) {
	d := device(t, 8192)
	s, h := opened(t, d)
	l := numbered(30, 30)
	r := made(s, h, l...)
	d.Fuse(0)
	panicked(d.Fence)
	for _, c := range onRoot(s, h, r, l[0].Name) {
		if v := panicked(c.f); v != (nvm.Lost{}) {
			t.Error(c.name, v)
		}
	}
	if v := panicked(func() { Set(s, h, r, "", 1) }); v != api.ErrArg {
		t.Error(v)
	}
	if v := panicked(func() { Set(s, h, r, "a", nan) }); v != api.ErrNaN {
		t.Error(v)
	}
	if e := s.Do(func() { Get(s, r, "a") }); e != api.ErrDead {
		t.Error(e)
	}
	d.Power(false, nil)
	s, h = opened(t, d)
	mustTell(t, s, r, asMap(l))
	mustHave(t, s, h, r)
}

func TestMemoryOfItsOwn(t *testing.T) {
	s, h := fresh(t, 8192)
	l := numbered(30, 30)
	r := made(s, h, l...)
	told := Range(s, r, -inf, inf, 9)
	clear(told[:cap(told)])
	places := Pieces(s, h, r)
	clear(places[:cap(places)])
	mustTell(t, s, r, asMap(l))
	mustHave(t, s, h, r)
}

// 14.3

// Roots that are none: the heap's own words, free words, others' pieces, parts of nodes, and such as are outside of the store.
func TestNoRankingStands(t *testing.T) {
	s, h := fresh(t, 6000)
	l := numbered(40, 30)
	r := made(s, h, l...)
	text := rec.Make(s, h, []byte(strings.Repeat("text", 100)))
	s.Commit()
	wrong := []uint64{math.MaxUint64, 1 << 63, 1<<63 + r.ByName, 1<<32 + r.ByName, 1 << 40, 1, 8, r.ByName + 1, r.ByScore - 8 + 1, uint64(text), uint64(s.Size()), uint64(s.Size() - 1)}
	for _, w := range wrong {
		for _, bad := range []Root{{w, w}, {w, r.ByScore}, {r.ByName, w}} {
			for _, c := range onRoot(s, h, bad, l[0].Name) {
				untouched := bad.ByName == r.ByName && c.name == "Get" || bad.ByScore == r.ByScore && c.name == "Range"
				before := h.Pieces()
				if v := panicked(c.f); (v != api.ErrForm) != untouched || s.Pending() != 0 || !slices.Equal(before, h.Pieces()) {
					t.Error(bad, c.name, v, s.Pending())
				}
			}
		}
	}
	mustTell(t, s, r, asMap(l))
}

// Two trees that do not belong together: what is seen to be wrong is a panic with api.ErrForm.
func TestTreesThatAreNoRanking(t *testing.T) {
	s, h := fresh(t, 8192)
	a := made(s, h, Scored{"a", 1}, Scored{"b", 2})
	m := Set(s, h, Set(s, h, Root{}, "a", 1.5), "b", 2)
	bits := func(x float64) uint64 { return math.Float64bits(x) }
	names := func(v uint64) uint64 { return tree.Put(s, h, 0, "a", v) }
	keys := func(k string) uint64 { return tree.Put(s, h, 0, k, 0) }
	s.Commit()
	for name, c := range map[string]struct {
		r     Root
		wrong string // calls that see it
	}{
		"none by score":    {Root{a.ByName, 0}, "Set, Unset, Place, Len"},
		"none by name":     {Root{0, a.ByScore}, "Len"},
		"other scores":     {Root{a.ByName, m.ByScore}, "Set, Unset, Place"},
		"no number":        {Root{names(bits(nan)), keys(order.Key(nan, "a"))}, "Set, Unset, Get, Place, Range"},
		"no number's bits": {Root{names(math.MaxUint64), keys(order.Key(1, "a"))}, "Set, Unset, Get, Place"},
		"no score":         {Root{names(bits(1)), keys("a")}, "Set, Unset, Place, Range"},
		"no name":          {Root{names(bits(1)), keys(order.Score(1))}, "Set, Unset, Place, Range"},
		"no code":          {Root{names(bits(1)), keys("\x00\x00\x00\x00\x00\x00\x00\x00a")}, "Set, Unset, Place"},
		"a code above":     {Root{names(bits(1)), keys("\xff\xff\xff\xff\xff\xff\xff\x00a")}, "Set, Unset, Place, Range"},
		"a long name":      {Root{names(bits(1)), keys(order.Key(1, strings.Repeat("a", 65)))}, "Set, Unset, Place, Range"},
	} {
		s.Commit()
		for _, x := range onRoot(s, h, c.r, "a") {
			if x.name == "Set another" {
				continue
			}
			before := h.Pieces()
			v := panicked(x.f)
			wrong := slices.Contains(strings.Split(c.wrong, ", "), x.name)
			if wrong != (v == api.ErrForm) || !wrong && v != nil || wrong && !slices.Equal(before, h.Pieces()) {
				t.Error(name, x.name, v)
			}
			s.Abort()
		}
	}
}

// Whatever words stand in a ranking's pieces, every call ends, and panics as said, if it does.
func TestHostileWords(t *testing.T) {
	r := rand.New(rand.NewSource(4))
	s, h := fresh(t, 12000)
	l := numbered(90, 20)
	root := made(s, h, l...)
	nodes := Pieces(s, h, root)
	told := map[any]int{}
	for range 1500 {
		for range 1 + r.Intn(4) {
			at := nodes[r.Intn(len(nodes))]
			switch r.Intn(6) {
			case 0:
				at = int(root.ByName)
			case 1:
				at = int(root.ByScore)
			}
			i := at + r.Intn(h.Size(at))
			switch r.Intn(4) {
			case 0:
				s.Put(i, r.Uint64())
			case 1:
				s.Put(i, s.Load(i)^1<<r.Intn(64))
			case 2:
				from := nodes[r.Intn(len(nodes))]
				s.Put(i, s.Load(from+r.Intn(h.Size(from))))
			default:
				s.Put(i, s.Load(i)&^math.MaxUint32|uint64(nodes[r.Intn(len(nodes))]))
			}
		}
		for _, c := range onRoot(s, h, root, l[r.Intn(len(l))].Name) {
			before := h.Pieces()
			v := panicked(c.f)
			told[v]++
			if v != nil && v != api.ErrForm || v != nil && !slices.Equal(before, h.Pieces()) {
				t.Fatal(c.name, v)
			}
		}
		s.Abort()
	}
	if told[nil] == 0 || told[api.ErrForm] == 0 || len(told) != 2 {
		t.Error(told)
	}
	mustTell(t, s, root, asMap(l))
}
