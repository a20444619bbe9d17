package tree

import (
	"fmt"
	"maps"
	"math"
	"math/bits"
	"math/rand"
	"slices"
	"strings"
	"testing"

	"reliquary/api"
	"reliquary/heap"
	"reliquary/nvm"
	"reliquary/rec"
	"reliquary/tx"
)

// panicked is what f panics with; nil if it does not.
func panicked(f func()) (v any) {
	defer func() { v = recover() }()
	f()
	return nil
}

// device is one whose store has so many words.
func device(t *testing.T, size int) *nvm.Device {
	t.Helper()
	d, e := nvm.New(12400 + size)
	if e != api.OK {
		t.Fatal("New", size, e)
	}
	return d
}

// opened is the store of a device, and its heap.
func opened(t *testing.T, d *nvm.Device) (*tx.Store, *heap.Heap) {
	t.Helper()
	s, e := tx.Open(d)
	if e != api.OK {
		t.Fatal("tx.Open", e)
	}
	h, e := heap.Open(s)
	if e != api.OK {
		t.Fatal("heap.Open", e)
	}
	return s, h
}

// fresh is a store of so many words and its heap, which is empty.
func fresh(t *testing.T, size int) (*tx.Store, *heap.Heap) {
	t.Helper()
	return opened(t, device(t, size))
}

func reading(s *tx.Store) []uint64 {
	l := make([]uint64, s.Size())
	for i := range l {
		l[i] = s.Load(i)
	}
	return l
}

// pairs are those of a plain map, rising.
func pairs(m map[string]uint64) []Pair {
	var l []Pair
	for _, k := range slices.Sorted(maps.Keys(m)) {
		l = append(l, Pair{k, m[k]})
	}
	return l
}

// mustTell checks that a root tells the pairs of m, by each of the calls.
func mustTell(t *testing.T, s *tx.Store, root uint64, m map[string]uint64) {
	t.Helper()
	want := pairs(m)
	if got := slices.Collect(Walk(s, root, "")); !slices.Equal(got, want) {
		t.Fatalf("Walk of %d: %.200v, want %.200v", root, got, want)
	}
	if got := Range(s, root, "", "", math.MaxInt); !slices.Equal(got, want) {
		t.Fatalf("Range of %d: %.200v, want %.200v", root, got, want)
	}
	for _, p := range want {
		if v, there := Get(s, root, p.Key); v != p.V || !there {
			t.Fatalf("Get of %d %.90q: %d %v, want %d", root, p.Key, v, there, p.V)
		}
	}
	if Len(s, root) != len(m) || Check(s, root) != api.OK {
		t.Fatal("Len", Len(s, root), len(m), "Check", Check(s, root))
	}
	if d := Depth(s, root); d > 2+bits.Len(uint(len(m))) || (d == 0) != (len(m) == 0) || (root == 0) != (len(m) == 0) {
		t.Fatal("Depth", d, len(m), "root", root)
	}
}

// mustHave checks that the pieces of the roots are all that is taken.
func mustHave(t *testing.T, s *tx.Store, h *heap.Heap, roots ...uint64) {
	t.Helper()
	var all []int
	for _, r := range roots {
		l := Pieces(s, h, r)
		for i := range l {
			if i > 0 && l[i-1] >= l[i] {
				t.Fatal("Pieces do not rise", l)
			}
		}
		all = append(all, l...)
	}
	slices.Sort(all)
	if !slices.Equal(slices.Compact(all), h.Pieces()) || h.Check() != api.OK {
		t.Fatal("Pieces", all, h.Pieces(), h.Check())
	}
}

// giveUp gives back the pieces of an old root that none of the roots kept has.
func giveUp(s *tx.Store, h *heap.Heap, old uint64, kept ...uint64) {
	var l []int
	for _, r := range kept {
		l = append(l, Pieces(s, h, r)...)
	}
	slices.Sort(l)
	for _, at := range Pieces(s, h, old) {
		if _, there := slices.BinarySearch(l, at); !there {
			h.Give(at)
		}
	}
}

// made is a tree of the pairs, and nothing else on its heap.
func made(s *tx.Store, h *heap.Heap, l ...Pair) uint64 {
	root := uint64(0)
	for _, p := range l {
		next := Put(s, h, root, p.Key, p.V)
		giveUp(s, h, root, next)
		root = next
		s.Commit()
	}
	return root
}

// numbered are n pairs whose keys have so many bytes, the number at their end.
func numbered(n, long int) []Pair {
	var l []Pair
	for i := range n {
		l = append(l, Pair{fmt.Sprintf("%0*d", long, i), uint64(i) * 0x0101010101010101})
	}
	return l
}

// call is one of the calls on a root.
type call struct {
	name string
	f    func()
}

// onRoot are all calls that read or change what stands under a root.
func onRoot(s *tx.Store, h *heap.Heap, root uint64, key string) []call {
	return []call{
		{"Put", func() { Put(s, h, root, "0"+key, 1) }},
		{"Del", func() { Del(s, h, root, key) }},
		{"Get", func() { Get(s, root, key) }},
		{"Walk", func() {
			for range Walk(s, root, "") {
			}
		}},
		{"Range", func() { Range(s, root, key, "", math.MaxInt) }},
		{"Len", func() { Len(s, root) }},
		{"Pieces", func() { Pieces(s, h, root) }},
		{"Depth", func() { Depth(s, root) }},
	}
}

// 11.1

func TestExample(t *testing.T) {
	s, h := fresh(t, 4096)
	a := Put(s, h, 0, "b", 2)
	b := Put(s, h, a, "a", 1)
	if l := Range(s, b, "", "", 9); !slices.Equal(l, []Pair{{"a", 1}, {"b", 2}}) {
		t.Error(l)
	}
	mustTell(t, s, a, map[string]uint64{"b": 2})
	mustTell(t, s, 0, nil)
	mustHave(t, s, h, a, b)
}

func TestTheEmptyTree(t *testing.T) {
	s, h := fresh(t, 1024)
	mustTell(t, s, 0, nil)
	mustHave(t, s, h, 0)
	for _, k := range []string{"", "a", strings.Repeat("x", 80), strings.Repeat("x", 81)} {
		if v, there := Get(s, 0, k); v != 0 || there {
			t.Error(v, there)
		}
		if r, there := Del(s, h, 0, k); r != 0 || there {
			t.Error(r, there)
		}
		if l := Range(s, 0, k, "", 9); len(l) != 0 {
			t.Error(l)
		}
	}
	if s.Pending() != 0 {
		t.Error("words were put")
	}
}

func TestPutReplaces(t *testing.T) {
	s, h := fresh(t, 8192)
	root := made(s, h, numbered(60, 9)...)
	want := map[string]uint64{}
	for _, p := range numbered(60, 9) {
		want[p.Key] = p.V
	}
	for _, v := range []uint64{0, 1, math.MaxUint64, 1 << 63, 1 << 32} {
		for _, k := range []string{"000000000", "000000031", "000000059"} {
			next := Put(s, h, root, k, v)
			mustTell(t, s, root, want)
			want[k] = v
			mustTell(t, s, next, want)
			giveUp(s, h, root, next)
			root = next
			s.Commit()
		}
	}
	mustHave(t, s, h, root)
}

func TestLengthsOfKeys(t *testing.T) {
	s, h := fresh(t, 20368)
	root := made(s, h, numbered(20, 9)...)
	s.Commit()
	for _, n := range []int{0, 81, 82, 127, 128, 200, 65536} {
		k := strings.Repeat("/", n)
		for _, r := range []uint64{0, root} {
			if v := panicked(func() { Put(s, h, r, k, 1) }); v != api.ErrArg || s.Pending() != 0 {
				t.Error("Put", n, v, s.Pending())
			}
			if v, there := Get(s, r, k); v != 0 || there {
				t.Error("Get", n, v, there)
			}
			if next, there := Del(s, h, r, k); next != r || there || s.Pending() != 0 {
				t.Error("Del", n, next, there)
			}
		}
		if e := s.Do(func() { Put(s, h, root, k, 1) }); e != api.ErrArg {
			t.Error("Do", n, e)
		}
		if l := Range(s, root, k, "", 99); len(l) != 20 {
			t.Error("lo", n, len(l))
		}
		if l := Range(s, root, "", "1"+k, 99); len(l) != 20 {
			t.Error("hi", n, len(l))
		}
	}
	want := map[string]uint64{}
	for _, p := range numbered(20, 9) {
		want[p.Key] = p.V
	}
	for n := 1; n <= 80; n++ {
		k := strings.Repeat("5", n)
		next := Put(s, h, root, k, uint64(n))
		giveUp(s, h, root, next)
		root, want[k] = next, uint64(n)
		s.Commit()
		mustTell(t, s, root, want)
	}
	mustHave(t, s, h, root)
}

func TestDel(t *testing.T) {
	s, h := fresh(t, 8192)
	l := numbered(40, 30)
	root := made(s, h, l...)
	want := map[string]uint64{}
	for _, p := range l {
		want[p.Key] = p.V
	}
	for _, p := range append(slices.Clone(l[20:]), l[:20]...) {
		for _, k := range []string{p.Key + "x", p.Key[:29], "x", ""} {
			if next, there := Del(s, h, root, k); next != root || there || s.Pending() != 0 {
				t.Fatal(k, next, there, s.Pending())
			}
		}
		next, there := Del(s, h, root, p.Key)
		if !there {
			t.Fatal(p.Key)
		}
		mustTell(t, s, root, want)
		delete(want, p.Key)
		mustTell(t, s, next, want)
		giveUp(s, h, root, next)
		root = next
		s.Commit()
		if next, there := Del(s, h, root, p.Key); next != root || there {
			t.Fatal(p.Key, next, there)
		}
	}
	if root != 0 || h.Free() != h.All() {
		t.Error(root, h.Free(), h.All())
	}
}

// Walk and Range from each place on, to each place, against a plain list.
func TestFromAndTo(t *testing.T) {
	s, h := fresh(t, 8192)
	for _, long := range []int{3, 80} {
		all := numbered(66, long)
		var l []Pair
		for i := 0; i < len(all); i += 3 {
			l = append(l, all[i])
		}
		root := made(s, h, l...)
		bounds := []string{"", "\x00", "0", "1", "\xff", strings.Repeat("0", 90), strings.Repeat("\xff", 90)}
		for _, p := range all {
			bounds = append(bounds, p.Key)
		}
		bounds = append(bounds, l[7].Key+"\x00", l[8].Key[:long-1])
		for _, lo := range bounds {
			from := slices.DeleteFunc(slices.Clone(l), func(p Pair) bool { return p.Key < lo })
			if got := slices.Collect(Walk(s, root, lo)); !slices.Equal(got, from) {
				t.Fatal("Walk", lo, got, from)
			}
			for _, hi := range bounds {
				want := slices.DeleteFunc(slices.Clone(from), func(p Pair) bool { return hi != "" && p.Key >= hi })
				for _, n := range []int{math.MinInt, -1, 0, 1, 2, len(want) - 1, len(want), len(want) + 1, math.MaxInt} {
					first := want[:min(max(n, 0), len(want))]
					if got := Range(s, root, lo, hi, n); !slices.Equal(got, first) {
						t.Fatal("Range", lo, hi, n, got, first)
					}
				}
			}
		}
		giveUp(s, h, root)
	}
}

// A walk may end anywhere, be gone through again, and go on while other roots are made of its own.
func TestWalks(t *testing.T) {
	s, h := fresh(t, 20368)
	l := numbered(50, 20)
	root := made(s, h, l...)
	w := Walk(s, root, l[5].Key)
	for n := range 45 {
		var got []Pair
		for p := range w {
			got = append(got, p)
			if len(got) == n+1 {
				break
			}
		}
		if !slices.Equal(got, l[5:5+n+1]) {
			t.Fatal(n, got)
		}
	}
	next, n := root, 0
	for p := range w {
		if p != l[5+n] {
			t.Fatal(n, p)
		}
		n++
		after, there := Del(s, h, next, p.Key)
		if !there {
			t.Fatal(p)
		}
		next = Put(s, h, after, p.Key+"!", p.V)
		s.Commit()
	}
	if n != 45 || Len(s, next) != 50 || Len(s, root) != 50 {
		t.Error(n, Len(s, next), Len(s, root))
	}
	mustTell(t, s, root, asMap(l))
}

func asMap(l []Pair) map[string]uint64 {
	m := map[string]uint64{}
	for _, p := range l {
		m[p.Key] = p.V
	}
	return m
}

// Keys of any bytes stand in their order, one that is another one's beginning ahead.
func TestKeysOfAllKinds(t *testing.T) {
	s, h := fresh(t, 30000)
	var keys []string
	for b := range 256 {
		keys = append(keys, string([]byte{byte(b)}), string([]byte{byte(b), 0}), string([]byte{0, byte(b)}))
	}
	for n := 1; n <= 80; n++ {
		keys = append(keys, strings.Repeat("\x00", n), strings.Repeat("\xff", n), strings.Repeat("ab", 40)[:n], strings.Repeat("a", n-1)+"\x00")
	}
	rand.New(rand.NewSource(11)).Shuffle(len(keys), func(i, j int) { keys[i], keys[j] = keys[j], keys[i] })
	want, root := map[string]uint64{}, uint64(0)
	for i, k := range keys {
		next := Put(s, h, root, k, uint64(i))
		giveUp(s, h, root, next)
		root, want[k] = next, uint64(i)
		s.Commit()
		if i%50 == 0 {
			mustTell(t, s, root, want)
		}
	}
	mustTell(t, s, root, want)
	mustHave(t, s, h, root)
	for i, k := range keys {
		next, there := Del(s, h, root, k)
		if _, is := want[k]; is != there {
			t.Fatalf("%q %v", k, there)
		}
		giveUp(s, h, root, next)
		root = next
		delete(want, k)
		s.Commit()
		if i%50 == 0 {
			mustTell(t, s, root, want)
		}
	}
	if root != 0 || h.Free() != h.All() {
		t.Error(root, h.Free(), h.All())
	}
}

// Whatever the order they come and go in, trees stay low.
func TestDepth(t *testing.T) {
	const n = 400
	orders := map[string]func(i int) int{
		"rising":    func(i int) int { return i },
		"falling":   func(i int) int { return n - 1 - i },
		"scattered": func(i int) int { return i * 141 % n },
		"inwards":   func(i int) int { return (i%2)*(n-1-i/2) + (1-i%2)*(i/2) },
	}
	for name, order := range orders {
		for _, long := range []int{4, 40, 80} {
			s, h := fresh(t, 53136)
			l := numbered(n, long)
			root := uint64(0)
			for i := range n {
				p := l[order(i)]
				next := Put(s, h, root, p.Key, p.V)
				giveUp(s, h, root, next)
				root = next
				s.Commit()
				if d := Depth(s, root); d > 2+bits.Len(uint(i+1)) || Len(s, root) != i+1 {
					t.Fatal(name, long, i, d, Len(s, root))
				}
			}
			mustTell(t, s, root, asMap(l))
			for i := range n {
				next, there := Del(s, h, root, l[order((i+n/3)%n)].Key)
				if !there {
					t.Fatal(name, long, i)
				}
				giveUp(s, h, root, next)
				root = next
				s.Commit()
				if d := Depth(s, root); d > 2+bits.Len(uint(n-1-i)) || Len(s, root) != n-1-i || i%50 == 0 && Check(s, root) != api.OK {
					t.Fatal(name, long, i, d, Len(s, root))
				}
			}
			if root != 0 || h.Free() != h.All() {
				t.Error(name, long, root, h.Free(), h.All())
			}
		}
	}
}

// What thins out gives its room back while it does.
func TestThinTrees(t *testing.T) {
	for long, most := range map[int]int{4: 128, 40: 512, 80: 2560} {
		s, h := fresh(t, 53136)
		l := numbered(640, long)
		root := made(s, h, l...)
		for i, p := range l {
			if i%16 > 0 {
				next, _ := Del(s, h, root, p.Key)
				giveUp(s, h, root, next)
				root = next
				s.Commit()
			}
		}
		if taken := h.All() - h.Free(); taken > most || Len(s, root) != 40 {
			t.Error(long, taken, Len(s, root))
		}
	}
}

// Long keys that part early make no high tree.
func TestLongKeysThatPartEarly(t *testing.T) {
	s, h := fresh(t, 20368)
	var l []Pair
	for i := range 200 {
		l = append(l, Pair{fmt.Sprintf("%03d", i) + strings.Repeat("e", 77), uint64(i)})
	}
	if d := Depth(s, made(s, h, l...)); d > 4 {
		t.Error(d)
	}
}

// A leaf whose only pair goes is gone; those beside it are shared.
func TestALeafOfNone(t *testing.T) {
	s, h := fresh(t, 20368)
	l := numbered(3, 80)
	root := made(s, h, l...)
	was := Pieces(s, h, root)
	for _, p := range l {
		next, _ := Del(s, h, root, p.Key)
		if Depth(s, next) == 1 && slices.Contains(was, int(next)) {
			return
		}
	}
	t.Error("the leaf that is left is not shared")
}

// Nothing that stands is changed, and what is alike is shared.
func TestShared(t *testing.T) {
	s, h := fresh(t, 30000)
	root := made(s, h, numbered(500, 12)...)
	before := reading(s)
	was := Pieces(s, h, root)
	next := Put(s, h, root, "000000000250x", 7)
	less, _ := Del(s, h, root, "000000000100")
	for _, at := range was {
		for i := at; i < at+h.Size(at); i++ {
			if s.Load(i) != before[i] {
				t.Fatal("a word of the old tree is changed", i)
			}
		}
	}
	for _, r := range []uint64{next, less} {
		unlike := 0
		for _, at := range Pieces(s, h, r) {
			if !slices.Contains(was, at) {
				unlike++
			}
		}
		if unlike > 2*Depth(s, r)+1 {
			t.Error("only", len(was)-unlike, "of", len(was), "pieces are shared")
		}
	}
	mustHave(t, s, h, root, next, less)
}

// 11.2

// families are ways to make keys by lot.
var families = map[string]func(r *rand.Rand) string{
	"short": func(r *rand.Rand) string { return fmt.Sprint(r.Intn(300)) },
	"long":  func(r *rand.Rand) string { return fmt.Sprintf("%080d", r.Intn(300)) },
	"early": func(r *rand.Rand) string { return fmt.Sprintf("%03d", r.Intn(300)) + strings.Repeat("e", 77) },
	"mixed": func(r *rand.Rand) string { return fmt.Sprint(r.Intn(60)) + strings.Repeat("m", r.Intn(78)) },
	"begun": func(r *rand.Rand) string { return strings.Repeat("b", 1+r.Intn(78)) + fmt.Sprint(r.Intn(4)) },
	"bytes": func(r *rand.Rand) string {
		b := make([]byte, 1+r.Intn(4))
		r.Read(b)
		b[0] &= 3
		return string(b)
	},
}

// A Put or Del takes at most 1,200 words, and few more than it writes.
func TestWordsOfAChange(t *testing.T) {
	for name, key := range families {
		r := rand.New(rand.NewSource(2))
		s, h := fresh(t, 53136)
		root := uint64(0)
		sum, n := 0, 0
		for i := range 1600 {
			free := h.Free()
			next, k := root, key(r)
			if i%2 == 0 || i < 500 {
				next = Put(s, h, root, k, r.Uint64())
			} else {
				next, _ = Del(s, h, root, k)
			}
			took := free - h.Free()
			if took > 1200 || s.Pending() > 1200 {
				t.Fatal(name, took, s.Pending())
			}
			sum += took
			n++
			giveUp(s, h, root, next)
			root = next
			s.Commit()
		}
		if mean := sum / n; mean > 250 {
			t.Error(name, "takes", mean)
		}
	}
}

// Each node has a piece of the same length, branches are fewer than leaves, and whatever is taken away, leaves never become more: who keeps room for two nodes a leaf can always take away.
func TestNodesAndLeaves(t *testing.T) {
	for name, key := range families {
		for seed := range int64(3) {
			r := rand.New(rand.NewSource(seed))
			s, h := fresh(t, 53136)
			root := uint64(0)
			leaves := func() int {
				nodes, n := Pieces(s, h, root), 0
				for _, at := range nodes {
					if h.Size(at) != nodeWords {
						t.Fatal(name, at, h.Size(at))
					}
					if headAt(s, uint64(at)).height == leafHeight {
						n++
					}
				}
				if n > Len(s, root) || len(nodes) > max(0, 2*n-1) {
					t.Fatal(name, n, len(nodes), Len(s, root))
				}
				return n
			}
			turn := func(next uint64) {
				giveUp(s, h, root, next)
				root = next
				s.Commit()
			}
			for range 2 {
				for range 400 {
					turn(Put(s, h, root, key(r), 1))
				}
				was := leaves()
				l := Range(s, root, "", "", 9999)
				r.Shuffle(len(l), func(i, k int) { l[i], l[k] = l[k], l[i] })
				for _, p := range l[r.Intn(len(l)/9+1):] {
					next, _ := Del(s, h, root, p.Key)
					turn(next)
					now := leaves()
					if now > was {
						t.Fatal(name, now, was)
					}
					was = now
				}
			}
		}
	}
}

// The deepest tree that the keys allow: each branch has two kids, none of whose keys is short.
func TestTheDeepestTree(t *testing.T) {
	s, h := fresh(t, 53136)
	l := numbered(700, 80)
	for i := range l {
		// No key between two kids can be short, since keys part in their last bytes alone.
		l[i].Key = strings.Repeat("k", 76) + l[i].Key[76:]
	}
	root := made(s, h, l...)
	for i, p := range l {
		if i%4 > 0 {
			next, _ := Del(s, h, root, p.Key)
			giveUp(s, h, root, next)
			root = next
			s.Commit()
		}
	}
	most := 0
	for i, p := range l {
		free := h.Free()
		Put(s, h, root, p.Key, 1)
		most = max(most, free-h.Free())
		s.Abort()
		Del(s, h, root, p.Key)
		most = max(most, free-h.Free())
		s.Abort()
		if i%100 == 0 && Check(s, root) != api.OK {
			t.Fatal(i)
		}
	}
	if most > 1200 || Depth(s, root) < 6 || Depth(s, root) > 10 {
		t.Error(most, Depth(s, root))
	}
}

// A Put or Del of which there is not all room has taken nothing, whether it is aborted or not; the trees that stand stay as they are.
func TestFull(t *testing.T) {
	for _, long := range []int{4, 30, 80} {
		s, h := fresh(t, 3000)
		l := numbered(2000, long)
		var roots []uint64
		root, n := uint64(0), 0
		v := panicked(func() {
			for _, p := range l {
				root = Put(s, h, root, p.Key, p.V)
				roots = append(roots, root)
				n++
				s.Commit()
			}
		})
		if v != api.ErrFull || n < 10 {
			t.Fatal(long, v, n)
		}
		mustStand := func() {
			t.Helper()
			mustHave(t, s, h, roots...)
			for i, r := range roots {
				if i%7 == 0 || r == root {
					mustTell(t, s, r, asMap(l[:i+1]))
				}
			}
		}
		mustStand()
		refused := 0
		for _, p := range l[:n] {
			free := h.Free()
			for _, f := range []func(){
				func() { Put(s, h, root, p.Key, 1) },
				func() { Del(s, h, root, p.Key) },
			} {
				v := panicked(f)
				if v == nil {
					s.Abort()
					continue
				}
				refused++
				if v != api.ErrFull || h.Free() != free {
					t.Fatal(long, p.Key, v, h.Free(), free)
				}
				if e := s.Do(f); e != api.ErrFull {
					t.Fatal(long, p.Key, e)
				}
			}
		}
		if refused == 0 {
			t.Error(long, "none was refused")
		}
		mustStand()
		// With the old roots gone there is room again.
		kept := Pieces(s, h, root)
		h.Sweep(func(at int) bool { return slices.Contains(kept, at) })
		next := Put(s, h, root, l[n].Key, l[n].V)
		mustTell(t, s, next, asMap(l[:n+1]))
		mustHave(t, s, h, root, next)
	}
}

// However little room a transaction has left, a change is done in it, or its error told.
func TestATransactionThatIsNearlyTooGreat(t *testing.T) {
	s, h := fresh(t, 20368)
	l := numbered(100, 60)
	root := made(s, h, l...)
	want := asMap(l)
	told := map[any]int{}
	for left := 0; left < 300; left += 4 {
		for i := range api.MaxWrites - left {
			s.Put(s.Size()/2+i, uint64(i))
		}
		var next uint64
		v := panicked(func() { next = Put(s, h, root, "00x", 1) })
		if v == nil {
			want["00x"] = 1
			mustTell(t, s, next, want)
			delete(want, "00x")
		}
		told[v]++
		s.Abort()
		e := s.Do(func() {
			for i := range api.MaxWrites - left {
				s.Put(s.Size()/2+i, uint64(i))
			}
			Del(s, h, root, l[left%100].Key)
			panic(api.ErrNone)
		})
		if e != api.ErrBig && e != api.ErrNone {
			t.Fatal(left, e)
		}
		mustTell(t, s, root, want)
	}
	if told[nil] == 0 || told[api.ErrBig] == 0 || len(told) != 2 {
		t.Error(told)
	}
	mustHave(t, s, h, root)
}

// 11.3, W4

// held is a root, and what it is to tell.
type held struct {
	root uint64
	want map[string]uint64
}

// run is a long run by lot on several roots at once.
type run struct {
	t    *testing.T
	d    *nvm.Device
	s    *tx.Store
	h    *heap.Heap
	r    *rand.Rand
	key  func(r *rand.Rand) string
	all  []held
	last []held // as committed
}

// change makes another root out of one of them.
func (x *run) change() {
	from := x.all[x.r.Intn(len(x.all))]
	to := held{want: maps.Clone(from.want)}
	k, v := x.key(x.r), x.r.Uint64()
	free := x.h.Free()
	p := panicked(func() {
		if x.r.Intn(5) < 3 {
			to.root = Put(x.s, x.h, from.root, k, v)
			to.want[k] = v
			return
		}
		there := false
		to.root, there = Del(x.s, x.h, from.root, k)
		if _, is := from.want[k]; is != there || !is && to.root != from.root {
			x.t.Fatalf("Del %q: %v", k, there)
		}
		delete(to.want, k)
	})
	if p == api.ErrFull && x.h.Free() == free {
		x.forget()
		return
	}
	if p != nil || free-x.h.Free() > 1200 {
		x.t.Fatal(p, free-x.h.Free())
	}
	x.all = append(x.all, to)
	if len(x.all) > 6 {
		x.forget()
	}
}

// forget gives up one of the roots.
func (x *run) forget() {
	i := x.r.Intn(len(x.all))
	old := x.all[i].root
	x.all = slices.Delete(slices.Clone(x.all), i, i+1)
	if len(x.all) == 0 {
		x.all = []held{{0, map[string]uint64{}}}
	}
	giveUp(x.s, x.h, old, x.roots()...)
}

func (x *run) roots() []uint64 {
	var l []uint64
	for _, a := range x.all {
		l = append(l, a.root)
	}
	return l
}

// end ends a transaction.
func (x *run) end() {
	switch x.r.Intn(6) {
	case 0:
		x.s.Abort()
		x.all = slices.Clone(x.last)
	case 1:
		x.d.Power(false, nil)
		x.s, x.h = opened(x.t, x.d)
		x.all = slices.Clone(x.last)
	default:
		x.s.Commit()
		x.last = slices.Clone(x.all)
	}
}

// However other roots came from it, and went, each root tells what it told; nothing but what hangs on the roots is taken.
func TestLongRuns(t *testing.T) {
	for name, key := range families {
		for seed := range int64(3) {
			d := device(t, []int{1400, 4000, 12000}[seed])
			x := &run{t: t, d: d, r: rand.New(rand.NewSource(seed)), key: key}
			x.s, x.h = opened(t, d)
			x.all = []held{{0, map[string]uint64{}}}
			x.last = slices.Clone(x.all)
			for i := range 700 {
				x.change()
				if x.s.Pending() > 4000 || x.r.Intn(3) == 0 {
					x.end()
				}
				if i%10 == 0 {
					mustHave(t, x.s, x.h, x.roots()...)
					for _, a := range x.all {
						mustTell(t, x.s, a.root, a.want)
					}
				}
			}
			if t.Failed() {
				t.Fatal(name, seed)
			}
		}
	}
}

// The power goes at each step of one change after the other, whatever is kept: what stands behind it is the tree with the change, or without it, and the old tree beside it.
func TestALossAtEachStep(t *testing.T) {
	d := device(t, 1600)
	s, h := opened(t, d)
	l := numbered(12, 40)
	if e := s.Do(func() { h.SetRoot(0, made(s, h, l...)) }); e != api.OK {
		t.Fatal(e)
	}
	want := asMap(l)
	for n, change := range []func(s *tx.Store, h *heap.Heap, root uint64, m map[string]uint64) uint64{
		func(s *tx.Store, h *heap.Heap, root uint64, m map[string]uint64) uint64 {
			m["new"] = 1
			return Put(s, h, root, "new", 1)
		},
		func(s *tx.Store, h *heap.Heap, root uint64, m map[string]uint64) uint64 {
			delete(m, l[3].Key)
			next, _ := Del(s, h, root, l[3].Key)
			return next
		},
		func(s *tx.Store, h *heap.Heap, root uint64, m map[string]uint64) uint64 {
			m[l[5].Key] = 9
			return Put(s, h, root, l[5].Key, 9)
		},
	} {
		s, h := opened(t, d)
		root := h.Root(0)
		after := maps.Clone(want)
		steps := func(s *tx.Store, h *heap.Heap) func() {
			return func() {
				clear(after)
				maps.Copy(after, want)
				next := change(s, h, h.Root(0), after)
				giveUp(s, h, h.Root(1), h.Root(0), next)
				h.SetRoot(1, h.Root(0))
				h.SetRoot(0, next)
			}
		}
		for k := 0; ; k++ {
			c := d.Copy()
			s, h := opened(t, c)
			c.Fuse(k)
			e := s.Do(steps(s, h))
			if e == api.OK {
				break
			}
			if e != api.ErrDead {
				t.Fatal(n, k, e)
			}
			var kept []int
			for i, w := range c.Waiting() {
				if i%3 == k%3 {
					kept = append(kept, w)
				}
			}
			c.Power(k%2 == 0, kept)
			s, h = opened(t, c)
			mustHave(t, s, h, h.Root(0), h.Root(1))
			if h.Root(0) == root {
				mustTell(t, s, root, want)
				continue
			}
			mustTell(t, s, h.Root(0), after)
			mustTell(t, s, h.Root(1), want)
		}
		if e := s.Do(steps(s, h)); e != api.OK {
			t.Fatal(n, e)
		}
		want = after
	}
}

func TestDead(t *testing.T) {
	d := device(t, 4096)
	s, h := opened(t, d)
	l := numbered(30, 30)
	root := made(s, h, l...)
	d.Fuse(0)
	panicked(d.Fence)
	for _, c := range append(onRoot(s, h, root, l[0].Key), call{"Check", func() { Check(s, root) }}) {
		if v := panicked(c.f); v != (nvm.Lost{}) {
			t.Error(c.name, v)
		}
	}
	if v := panicked(func() { Put(s, h, root, "", 1) }); v != api.ErrArg {
		t.Error(v)
	}
	if e := s.Do(func() { Get(s, root, "a") }); e != api.ErrDead {
		t.Error(e)
	}
	d.Power(false, nil)
	s, h = opened(t, d)
	mustTell(t, s, root, asMap(l))
	mustHave(t, s, h, root)
}

func TestMemoryOfItsOwn(t *testing.T) {
	s, h := fresh(t, 8192)
	l := numbered(30, 30)
	root := made(s, h, l...)
	told := Range(s, root, "", "", 9)
	clear(told[:cap(told)])
	places := Pieces(s, h, root)
	clear(places[:cap(places)])
	mustTell(t, s, root, asMap(l))
	mustHave(t, s, h, root)
}

// 11.4

// Roots that are none: the heap's own words, free words, others' pieces, parts of nodes, and such as are outside of the store.
func TestNoTreeStands(t *testing.T) {
	s, h := fresh(t, 3000)
	l := numbered(40, 30)
	root := made(s, h, l...)
	nodes := Pieces(s, h, root)
	rec.Make(s, h, []byte(strings.Repeat("text", 100)))
	s.Commit()
	roots := []uint64{
		math.MaxUint64, math.MaxUint64 - 7, 1 << 63, 1<<63 + root, 1<<32 + root, 1 << 40,
		uint64(s.Size()), uint64(s.Size()) + 8,
	}
	for i := range s.Size() {
		if i > 0 && !slices.Contains(nodes, i) {
			roots = append(roots, uint64(i))
		}
	}
	want := reading(s)
	for _, r := range roots {
		// What was a node and is free now looks like one to whoever has no heap.
		if !slices.Contains(h.Pieces(), int(r)) && r < uint64(s.Size()) && panicked(func() { headAt(s, r) }) == nil {
			if v := panicked(func() { Pieces(s, h, r) }); v != api.ErrForm {
				t.Fatal("Pieces", r, v)
			}
			continue
		}
		for _, c := range onRoot(s, h, r, l[7].Key) {
			if v := panicked(c.f); v != api.ErrForm || s.Pending() != 0 {
				t.Fatal(c.name, r, v, s.Pending())
			}
		}
		if e := Check(s, r); e != api.ErrForm {
			t.Fatal("Check", r, e)
		}
	}
	if !slices.Equal(reading(s), want) {
		t.Error("a refused call changed words")
	}
	// A walk of nothing asks for nothing.
	if l := Range(s, 1, "", "", 0); len(l) != 0 {
		t.Error(l)
	}
}

// rewrite puts other words in the place of a node's.
func rewrite(s *tx.Store, at uint64, n node) {
	for i, v := range wordsOf(n) {
		s.Put(int(at)+i, v)
	}
}

// tall is a tree of two levels at least, and its top.
func tall(t *testing.T, s *tx.Store, h *heap.Heap) (uint64, branch) {
	t.Helper()
	root := made(s, h, numbered(300, 20)...)
	b, inner := top(s, root).(branch)
	if !inner || b.high < 3 {
		t.Fatal("not tall", Depth(s, root))
	}
	return root, b
}

// Each fault that Check is for, and each that would lead others astray.
func TestCheck(t *testing.T) {
	s, h := fresh(t, 30000)
	root, b := tall(t, s, h)
	low := b.kid(s, 0).(branch)
	first := nodeAt(s, low.kids[0].at, low.high-1)
	for low.high > 2 {
		low = first.(branch)
		first = nodeAt(s, low.kids[0].at, low.high-1)
	}
	l := first.(leaf)
	at := low.kids[0].at
	second := nodeAt(s, low.kids[1].at, 1).(leaf)
	faults := map[string]func(){
		"two keys alike":             func() { rewrite(s, at, append(leaf{l[1]}, l[1:]...)) },
		"keys that fall":             func() { rewrite(s, at, append(leaf{l[1], l[0]}, l[2:]...)) },
		"a key beyond its leaf":      func() { rewrite(s, at, append(l[:len(l)-1:len(l)-1], second[0])) },
		"the key behind its leaf":    func() { rewrite(s, at, append(l[:len(l)-1:len(l)-1], Pair{low.between[0], 1})) },
		"a key ahead of its leaf":    func() { rewrite(s, low.kids[1].at, append(leaf{l[0]}, second[1:]...)) },
		"an empty key":               func() { rewrite(s, at, append(leaf{{"", 1}}, l[1:]...)) },
		"a leaf of none":             func() { rewrite(s, at, leaf{}) },
		"a count that is not so":     func() { rewrite(s, at, l[1:]) },
		"a short path":               func() { rewrite(s, root, b.with(1, 2, []kid{{at, b.kids[1].pairs}}, nil)) },
		"a long path":                func() { rewrite(s, root, b.with(1, 2, []kid{{root, b.kids[1].pairs}}, nil)) },
		"one kid twice":              func() { rewrite(s, root, b.with(1, 2, []kid{b.kids[0]}, nil)) },
		"one kid alone":              func() { rewrite(s, root, branch{b.high, nil, b.kids[:1]}) },
		"kids the wrong way round":   func() { rewrite(s, root, b.with(0, 2, []kid{b.kids[1], b.kids[0]}, b.between[:1])) },
		"keys between that fall":     func() { rewrite(s, root, branch{b.high, []string{"b", "a"}, slices.Repeat(b.kids, 2)[:3]}) },
		"no key between":             func() { rewrite(s, root, branch{b.high, nil, b.kids}) },
		"a key too many":             func() { rewrite(s, root, branch{b.high, append([]string{"\x00"}, b.between...), b.kids}) },
		"a kid that is none":         func() { rewrite(s, root, b.with(1, 2, []kid{{0, b.kids[1].pairs}}, nil)) },
		"a kid beyond the store":     func() { rewrite(s, root, b.with(1, 2, []kid{{1 << 31, b.kids[1].pairs}}, nil)) },
		"a kid within a node":        func() { rewrite(s, root, b.with(1, 2, []kid{{b.kids[1].at + 8, b.kids[1].pairs}}, nil)) },
		"another mark":               func() { s.Put(int(at), s.Load(int(at))^1<<40) },
		"a height of none":           func() { s.Put(int(at), s.Load(int(at))&^(byteMask<<heightShift)) },
		"a key of 81 bytes":          func() { rewrite(s, at, leaf{{strings.Repeat("0", 81), 1}}) },
		"bits behind the keys":       func() { s.Put(int(at)+sizeOf(l)-1, s.Load(int(at)+sizeOf(l)-1)|1<<63) },
		"more bytes than there are":  func() { s.Put(int(at), s.Load(int(at))|bytesMask) },
		"more items than there are":  func() { s.Put(int(at), s.Load(int(at))|byteMask<<itemsShift) },
		"a height that is too great": func() { s.Put(int(root), s.Load(int(root))|byteMask<<heightShift) },
	}
	for name, f := range faults {
		f()
		if e := Check(s, root); e != api.ErrForm {
			t.Error(name, e)
		}
		if strings.HasSuffix(name, " path") && panicked(func() { Pieces(s, h, root) }) != api.ErrForm {
			t.Error("Pieces", name)
		}
		s.Abort()
		if e := Check(s, root); e != api.OK {
			t.Fatal(name, "mended:", e)
		}
	}
}

// A node that is none is seen by whoever reads it, though nothing is known of what should stand there.
func TestNodesThatAreNone(t *testing.T) {
	s, h := fresh(t, 8192)
	c := &change{s: s, h: h}
	k := c.write(leaf{{"a", 1}})
	nodes := map[string]node{
		"none":            leaf{},
		"empty key":       leaf{{"", 1}},
		"long key":        leaf{{strings.Repeat("a", 81), 1}},
		"alike":           leaf{{"a", 1}, {"a", 2}},
		"falling":         leaf{{"a", 1}, {"c", 2}, {"b", 3}},
		"too great":       slices.Concat(leaf(numbered(24, 2)), leaf{{"99", 1}}),
		"one kid":         branch{2, nil, []kid{k}},
		"no kid":          branch{2, nil, nil},
		"a key too few":   branch{2, []string{"b"}, []kid{k, k, k}},
		"a key too many":  branch{2, []string{"b", "c"}, []kid{k, k}},
		"falling between": branch{2, []string{"c", "b"}, []kid{k, k, k}},
		"height of none":  branch{0, []string{"b"}, []kid{k, k}},
		"too high":        branch{mostHeight + 1, []string{"b"}, []kid{k, k}},
	}
	for name, n := range nodes {
		at := c.write(n).at
		s.Commit()
		for _, x := range onRoot(s, h, at, "a") {
			// These two do not read what stands behind the head, and the items of a branch.
			if x.name == "Depth" || x.name == "Pieces" {
				continue
			}
			if v := panicked(x.f); v != api.ErrForm || s.Pending() != 0 {
				t.Error(name, x.name, v, s.Pending())
			}
		}
		if Check(s, at) != api.ErrForm {
			t.Error(name, "Check")
		}
	}
	for _, name := range []string{"height of none", "too high", "too great"} {
		at := c.write(nodes[name]).at
		if panicked(func() { Depth(s, at) }) != api.ErrForm || panicked(func() { Pieces(s, h, at) }) != api.ErrForm {
			t.Error(name)
		}
	}
}

// A node stands at a place of the heap's, and ends within the store.
func TestPlacesOfNodes(t *testing.T) {
	s, h := fresh(t, 2000)
	w := wordsOf(leaf{{"a", 1}})
	at := h.Take(16)
	for i, v := range w {
		s.Put(at+1+i, v)
	}
	wide := h.Take(16)
	for i, v := range w {
		s.Put(wide+i, v)
	}
	last := s.Size() - api.Line
	for i, v := range wordsOf(leaf(numbered(4, 20)))[:api.Line] {
		s.Put(last+i, v)
	}
	s.Commit()
	if v := panicked(func() { Pieces(s, h, uint64(wide)) }); v != api.ErrForm {
		t.Error("a piece of another size", v)
	}
	for _, r := range []int{at + 1, last} {
		for _, x := range onRoot(s, h, uint64(r), "a") {
			if v := panicked(x.f); v != api.ErrForm || s.Pending() != 0 {
				t.Error(r, x.name, v, s.Pending())
			}
		}
		if Check(s, uint64(r)) != api.ErrForm {
			t.Error(r, "Check")
		}
	}
}

// Words that lead to one node by very many ways are not gone through by each of them.
func TestManyWaysToOneNode(t *testing.T) {
	s, h := fresh(t, 8192)
	c := &change{s: s, h: h}
	var keys []string
	for i := range 15 {
		keys = append(keys, string([]byte{byte('a' + i)}))
	}
	k := c.write(leaf{{"a", 1}})
	for high := 2; high <= mostHeight; high++ {
		k = c.write(branch{high, keys, slices.Repeat([]kid{k}, 16)})
	}
	if Check(s, k.at) != api.ErrForm {
		t.Error("Check")
	}
	if l := Pieces(s, h, k.at); len(l) != mostHeight {
		t.Error(len(l))
	}
	for _, name := range []string{"Walk", "Range"} {
		for _, x := range onRoot(s, h, k.at, "a") {
			if x.name == name && panicked(x.f) != api.ErrForm {
				t.Error(name)
			}
		}
	}
	if v, there := Get(s, k.at, "a"); v != 1 || !there {
		t.Error(v, there)
	}
	free := h.Free()
	v := panicked(func() { Put(s, h, k.at, "b", 1) })
	if v != nil || free-h.Free() > 1200 {
		t.Error(v, free-h.Free())
	}
}

// fullTo is a tree so high whose leftmost nodes are all full.
func fullTo(s *tx.Store, h *heap.Heap, height int) uint64 {
	c := &change{s: s, h: h}
	var l leaf
	for i := range 22 {
		l = append(l, Pair{fmt.Sprintf("%02d", i), 1})
	}
	k := c.write(l)
	for high := 2; high <= height; high++ {
		var keys []string
		for i := range 21 {
			// Above those of the nodes below, which come up when these are cut.
			keys = append(keys, string([]byte{byte('A' + high), byte('A' + i)}))
		}
		k = c.write(branch{high, keys, slices.Repeat([]kid{k}, 22)})
	}
	return k.at
}

// Though all nodes on its way are cut, a Put takes no more than 1,200 words; words that would make a tree higher than any that fits a store are no tree's.
func TestAllNodesCut(t *testing.T) {
	for height := 1; height <= mostHeight; height++ {
		s, h := fresh(t, 8192)
		root := fullTo(s, h, height)
		s.Commit()
		free := h.Free()
		var next uint64
		v := panicked(func() { next = Put(s, h, root, "00x", 7) })
		if height == mostHeight {
			if v != api.ErrForm || h.Free() != free {
				t.Error(v, h.Free(), free)
			}
			continue
		}
		if v != nil || free-h.Free() > 1200 || Depth(s, next) != height+1 {
			t.Error(height, v, free-h.Free(), Depth(s, next))
		}
		if v, there := Get(s, next, "00x"); v != 7 || !there {
			t.Error(height, v, there)
		}
	}
}

// Whatever words stand in a tree's pieces, every call ends, and panics as said, if it does.
func TestHostileWords(t *testing.T) {
	r := rand.New(rand.NewSource(4))
	s, h := fresh(t, 12000)
	l := numbered(120, 20)
	root := made(s, h, l...)
	nodes := Pieces(s, h, root)
	told := map[any]int{}
	for range 3000 {
		for range 1 + r.Intn(4) {
			at := nodes[r.Intn(len(nodes))]
			if r.Intn(4) == 0 {
				at = int(root)
			}
			i := at + r.Intn(h.Size(at))
			switch r.Intn(4) {
			case 0:
				s.Put(i, r.Uint64())
			case 1:
				s.Put(i, s.Load(i)^1<<r.Intn(64))
			case 2:
				from := nodes[r.Intn(len(nodes))]
				s.Put(i, s.Load(from+r.Intn(h.Size(from))))
			default:
				s.Put(i, s.Load(i)&^placeMask|uint64(nodes[r.Intn(len(nodes))]))
			}
		}
		key := l[r.Intn(len(l))].Key
		for _, c := range onRoot(s, h, root, key) {
			free := h.Free()
			v := panicked(c.f)
			told[v]++
			if v != nil && v != api.ErrForm || v != nil && h.Free() != free {
				t.Fatal(c.name, v, free-h.Free())
			}
		}
		e := Check(s, root)
		told[e]++
		if e == api.OK && len(slices.Collect(Walk(s, root, ""))) != Len(s, root) {
			t.Fatal("Check said OK")
		}
		s.Abort()
	}
	if told[nil] == 0 || told[api.ErrForm] == 0 || len(told) != 3 && len(told) != 2 {
		t.Error(told)
	}
	mustTell(t, s, root, asMap(l))
}
