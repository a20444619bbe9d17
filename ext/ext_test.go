package ext

import (
	"encoding/binary"
	"fmt"
	"maps"
	"math"
	"math/rand"
	"slices"
	"strings"
	"testing"

	"reliquary/api"
	"reliquary/hash"
	"reliquary/heap"
	"reliquary/nvm"
	"reliquary/rec"
	"reliquary/tree"
	"reliquary/tx"
)

// panicked is what f panics with; nil if it does not.
func panicked(f func()) (v any) {
	defer func() { v = recover() }()
	f()
	return nil
}

// device is one whose store has so many words.
func device(t *testing.T, size int) *nvm.Device {
	t.Helper()
	d, e := nvm.New(12400 + size)
	if e != api.OK {
		t.Fatal("New", size, e)
	}
	return d
}

// opened is the store of a device, and its heap.
func opened(t *testing.T, d *nvm.Device) (*tx.Store, *heap.Heap) {
	t.Helper()
	s, e := tx.Open(d)
	if e != api.OK {
		t.Fatal("tx.Open", e)
	}
	h, e := heap.Open(s)
	if e != api.OK {
		t.Fatal("heap.Open", e)
	}
	return s, h
}

// fresh is a store of so many words and its heap, which is empty.
func fresh(t *testing.T, size int) (*tx.Store, *heap.Heap) {
	t.Helper()
	return opened(t, device(t, size))
}

// mustTell checks that a root tells the pairs of m, by each of the calls.
func mustTell(t *testing.T, s *tx.Store, root uint64, m map[string]uint64) {
	t.Helper()
	for i, k := range slices.Sorted(maps.Keys(m)) {
		v := m[k]
		if got, there := Get(s, root, k); got != v || !there {
			t.Fatalf("Get of %d %.90q: %d %v, want %d", root, k, got, there, v)
		}
		if i > 100 {
			continue
		}
		for _, other := range []string{k + "!", k[:len(k)-1], strings.ToUpper(k)} {
			if _, is := m[other]; is {
				continue
			}
			if got, there := Get(s, root, other); got != 0 || there {
				t.Fatalf("Get of %d %.90q: %d %v, want none", root, other, got, there)
			}
		}
	}
	if Len(s, root) != len(m) || Check(s, root) != api.OK || (root == 0) != (len(m) == 0) {
		t.Fatal("Len", Len(s, root), len(m), "Check", Check(s, root), "root", root)
	}
}

// mustHave checks that the pieces of the roots are all that is taken, and told rising, each once.
func mustHave(t *testing.T, s *tx.Store, h *heap.Heap, roots ...uint64) {
	t.Helper()
	var all []int
	for _, r := range roots {
		l := Pieces(s, h, r)
		for i := range l {
			if i > 0 && l[i-1] >= l[i] {
				t.Fatal("Pieces do not rise", l)
			}
		}
		all = append(all, l...)
	}
	slices.Sort(all)
	if !slices.Equal(all, h.Pieces()) || h.Check() != api.OK {
		t.Fatal("Pieces", all, h.Pieces(), h.Check())
	}
}

// mustBeTight checks that no bucket could be joined with another, and that the directory is no deeper than it has to be.
func mustBeTight(t *testing.T, s *tx.Store, h *heap.Heap, root uint64) {
	t.Helper()
	if root == 0 {
		return
	}
	x := indexOf(s, h, root)
	to, depth := slices.Clone(x.to), x.depth
	for i := range to {
		x.join(i)
	}
	x.halve()
	if len(x.gone) > 0 || x.depth != depth || !slices.Equal(x.to, to) {
		t.Fatal("joined", x.gone, x.depth, depth)
	}
}

// mustBeSpread checks that each bucket has one piece, or keys that no directory can tell apart.
func mustBeSpread(t *testing.T, s *tx.Store, root uint64) {
	t.Helper()
	if root == 0 {
		return
	}
	for _, b := range read(s, root).buckets() {
		l := slices.Collect(chainAt(s, b.at))
		if len(l) > 1 && unlike(pairsOf(l)) <= mostDepth {
			t.Fatal("not spread", len(l), unlike(pairsOf(l)))
		}
	}
}

// made is an index of the keys, each with its number.
func made(s *tx.Store, h *heap.Heap, keys ...string) uint64 {
	root := uint64(0)
	for i, k := range keys {
		root = Put(s, h, root, k, uint64(i))
		s.Commit()
	}
	return root
}

// asMap has each key with its number.
func asMap(keys []string) map[string]uint64 {
	m := map[string]uint64{}
	for i, k := range keys {
		m[k] = uint64(i)
	}
	return m
}

// numbered are n keys that have so many bytes, the number at their end.
func numbered(n, long int) []string {
	var l []string
	for i := range n {
		l = append(l, fmt.Sprintf("%0*d", long, i))
	}
	return l
}

// ofOneHash are n keys (of at most 1,024) of 80 bytes whose hashes are all alike: each eight bytes are one of two that lead from one state of the hash to the same next one.
func ofOneHash(n int) []string {
	blocks := [10][2]uint64{
		{0xe6cfefffd95d1884, 0x46fc9e0777a01382},
		{0x0cb7ca91fa4ef67c, 0x88b276e9d05d5c06},
		{0x8c0e9d33bd0aab76, 0x81ca5bf601feff66},
		{0x39737fc4118cf59b, 0xc2558cee6d0f9fd6},
		{0x724ae9795625cfcc, 0x52425cf33cd2e8f5},
		{0xd71e1245de491cff, 0x588f9e84be0fc2fe},
		{0xa718b8cbba40e5e1, 0xe605d33d20aaef7a},
		{0xc3eede00cdbdea27, 0xa5fab6ef650fabeb},
		{0x2e92bf6cbee2c65a, 0xb5d1446eb9e18ef1},
		{0x7fd41fc10a98bbe6, 0x7232159fac43e08f},
	}
	var l []string
	for i := range n {
		var b []byte
		for k, two := range blocks {
			b = binary.LittleEndian.AppendUint64(b, two[i>>k&1])
		}
		l = append(l, string(b))
	}
	return l
}

// alikeIn are n keys of so many bytes whose hashes begin with the same bits; no two agree in one more.
func alikeIn(depth, n, long int) []string {
	var l []string
	for i := 0; len(l) < n; i++ {
		k := fmt.Sprintf("%0*d", long, i)
		if len(l) > 0 && prefix(k, depth) != prefix(l[0], depth) {
			continue
		}
		l = append(l, k)
	}
	return l
}

// call is one of the calls on a root.
type call struct {
	name string
	f    func()
}

// onRoot are all calls that read or change what stands under a root.
func onRoot(s *tx.Store, h *heap.Heap, root uint64, key string) []call {
	return []call{
		{"Put", func() { Put(s, h, root, "0"+key, 1) }},
		{"Put again", func() { Put(s, h, root, key, 1) }},
		{"Del", func() { Del(s, h, root, key) }},
		{"Get", func() { Get(s, root, key) }},
		{"Len", func() { Len(s, root) }},
		{"Pieces", func() { Pieces(s, h, root) }},
	}
}

// 12.1

func TestExample(t *testing.T) {
	s, h := fresh(t, 1024)
	root := Put(s, h, 0, "a", 1)
	if root == 0 {
		t.Error("no root")
	}
	if v, there := Get(s, root, "a"); v != 1 || !there {
		t.Error(v, there)
	}
	mustHave(t, s, h, root)
	if next, there := Del(s, h, root, "a"); next != 0 || !there {
		t.Error(next, there)
	}
	mustHave(t, s, h)
}

func TestTheEmptyIndex(t *testing.T) {
	s, h := fresh(t, 1024)
	mustTell(t, s, 0, nil)
	mustHave(t, s, h, 0)
	for _, k := range []string{"", "a", strings.Repeat("x", 80), strings.Repeat("x", 81)} {
		if v, there := Get(s, 0, k); v != 0 || there {
			t.Error(v, there)
		}
		if r, there := Del(s, h, 0, k); r != 0 || there {
			t.Error(r, there)
		}
	}
	if s.Pending() != 0 {
		t.Error("words were put")
	}
}

func TestPutReplaces(t *testing.T) {
	s, h := fresh(t, 8192)
	keys := numbered(200, 9)
	root := made(s, h, keys...)
	want := asMap(keys)
	for _, v := range []uint64{0, 1, math.MaxUint64, 1 << 63, 1 << 32} {
		for _, k := range []string{keys[0], keys[31], keys[199]} {
			free := h.Free()
			root = Put(s, h, root, k, v)
			want[k] = v
			// In its place: one word.
			if s.Pending() != 1 || h.Free() != free {
				t.Error(s.Pending(), free, h.Free())
			}
			mustTell(t, s, root, want)
			s.Commit()
		}
	}
	mustHave(t, s, h, root)
}

func TestLengthsOfKeys(t *testing.T) {
	s, h := fresh(t, 20368)
	keys := numbered(20, 9)
	root := made(s, h, keys...)
	for _, n := range []int{0, 81, 82, 127, 128, 200, 65536} {
		k := strings.Repeat("/", n)
		for _, r := range []uint64{0, root} {
			if v := panicked(func() { Put(s, h, r, k, 1) }); v != api.ErrArg || s.Pending() != 0 {
				t.Error("Put", n, v, s.Pending())
			}
			if v, there := Get(s, r, k); v != 0 || there {
				t.Error("Get", n, v, there)
			}
			if next, there := Del(s, h, r, k); next != r || there || s.Pending() != 0 {
				t.Error("Del", n, next, there)
			}
		}
		if e := s.Do(func() { Put(s, h, root, k, 1) }); e != api.ErrArg {
			t.Error("Do", n, e)
		}
	}
	want := asMap(keys)
	for n := 1; n <= 80; n++ {
		k := strings.Repeat("5", n)
		root = Put(s, h, root, k, uint64(n))
		want[k] = uint64(n)
		s.Commit()
		mustTell(t, s, root, want)
		mustHave(t, s, h, root)
	}
}

func TestDel(t *testing.T) {
	s, h := fresh(t, 8192)
	keys := numbered(60, 30)
	root := made(s, h, keys...)
	want := asMap(keys)
	for _, k := range append(slices.Clone(keys[20:]), keys[:20]...) {
		for _, other := range []string{k + "x", k[:29], "x", ""} {
			if next, there := Del(s, h, root, other); next != root || there || s.Pending() != 0 {
				t.Fatal(other, next, there, s.Pending())
			}
		}
		there := false
		if root, there = Del(s, h, root, k); !there {
			t.Fatal(k)
		}
		delete(want, k)
		s.Commit()
		mustTell(t, s, root, want)
		mustHave(t, s, h, root)
		if next, there := Del(s, h, root, k); next != root || there {
			t.Fatal(k, next, there)
		}
	}
	if root != 0 || h.Free() != h.All() {
		t.Error(root, h.Free(), h.All())
	}
}

// Keys of any bytes are told apart, those that are another one's beginning among them.
func TestKeysOfAllKinds(t *testing.T) {
	s, h := fresh(t, 30000)
	var keys []string
	for b := range 256 {
		keys = append(keys, string([]byte{byte(b)}), string([]byte{byte(b), 0}), string([]byte{0, byte(b)}))
	}
	for n := 1; n <= 80; n++ {
		keys = append(keys, strings.Repeat("\x00", n), strings.Repeat("\xff", n), strings.Repeat("ab", 40)[:n], strings.Repeat("a", n-1)+"\x00")
	}
	r := rand.New(rand.NewSource(11))
	r.Shuffle(len(keys), func(i, j int) { keys[i], keys[j] = keys[j], keys[i] })
	want, root := map[string]uint64{}, uint64(0)
	for i, k := range keys {
		root = Put(s, h, root, k, uint64(i))
		want[k] = uint64(i)
		s.Commit()
		if i%100 == 0 {
			mustTell(t, s, root, want)
		}
	}
	mustTell(t, s, root, want)
	mustHave(t, s, h, root)
	for i, k := range keys {
		_, is := want[k]
		next, there := Del(s, h, root, k)
		if is != there {
			t.Fatalf("%q %v", k, there)
		}
		root = next
		delete(want, k)
		s.Commit()
		if i%100 == 0 {
			mustTell(t, s, root, want)
		}
	}
	if root != 0 || h.Free() != h.All() {
		t.Error(root, h.Free(), h.All())
	}
}

// Keys stand by the hash of the seed 7, so that one look at the directory finds the bucket: few words are read.
func TestSpreadBySeven(t *testing.T) {
	s, h := fresh(t, 53136)
	keys := numbered(3000, 20)
	root := made(s, h, keys...)
	x := read(s, root)
	if x.depth < 8 || len(x.buckets()) < 256 {
		t.Fatal(x.depth, len(x.buckets()))
	}
	for _, k := range keys {
		b := x.to[hash.Prefix(hash.Of(7, k), x.depth)]
		if l := slices.Collect(chainAt(s, b.at)); len(l) > 2 || !slices.ContainsFunc(l, func(p part) bool { return p.find(k) >= 0 }) {
			t.Fatal(k, len(l))
		}
	}
	mustTell(t, s, root, asMap(keys))
}

// However many have one hash, all are found; the directory is not doubled for what it can't tell apart.
func TestOneHash(t *testing.T) {
	s, h := fresh(t, 20368)
	keys := ofOneHash(1024)
	for i, k := range keys {
		if hash.Of(7, k) != hash.Of(7, keys[0]) || slices.Contains(keys[:i], k) {
			t.Fatal("no such keys")
		}
	}
	root, want := uint64(0), map[string]uint64{}
	for i, k := range keys {
		root = Put(s, h, root, k, uint64(i))
		want[k] = uint64(i)
		if s.Pending() > 200 {
			t.Fatal(s.Pending())
		}
		s.Commit()
	}
	mustTell(t, s, root, want)
	mustHave(t, s, h, root)
	// Five fit a piece.
	if n := len(Pieces(s, h, root)); n != 1+205 {
		t.Error(n)
	}
	for i, k := range keys[:300] {
		root = Put(s, h, root, k, uint64(i)+7)
		want[k] = uint64(i) + 7
	}
	s.Commit()
	mustTell(t, s, root, want)
	r := rand.New(rand.NewSource(5))
	for i, n := range r.Perm(len(keys)) {
		there := false
		if root, there = Del(s, h, root, keys[n]); !there {
			t.Fatal(n)
		}
		delete(want, keys[n])
		if s.Pending() > 300 {
			t.Fatal(s.Pending())
		}
		s.Commit()
		if i%256 == 255 {
			mustTell(t, s, root, want)
			mustHave(t, s, h, root)
			// What thins out gives its pieces back: any two that lie beside each other have more than one could.
			if n := len(Pieces(s, h, root)); n > 2+len(want)/3+len(want)/6 {
				t.Error(n, len(want))
			}
		}
	}
	if root != 0 || h.Free() != h.All() {
		t.Error(root, h.Free())
	}
}

// Keys of one hash, the others beside them, however they come: the others stay spread.
func TestOneHashAmongOthers(t *testing.T) {
	alike, others := ofOneHash(64), numbered(600, 20)
	for _, keys := range [][]string{
		slices.Concat(alike, others),
		slices.Concat(others, alike),
		slices.Concat(alike[:20], others[:300], alike[20:], others[300:]),
	} {
		s, h := fresh(t, 20368)
		root := made(s, h, keys...)
		mustTell(t, s, root, asMap(keys))
		mustHave(t, s, h, root)
		if n := len(read(s, root).buckets()); n < 60 {
			t.Error(n)
		}
		mustBeSpread(t, s, root)
		for i, k := range keys {
			root, _ = Del(s, h, root, k)
			s.Commit()
			if i%5 == 0 {
				mustBeTight(t, s, h, root)
				mustBeSpread(t, s, root)
			}
		}
		if root != 0 || h.Free() != h.All() {
			t.Error(root, h.Free())
		}
	}
}

// Keys whose hashes begin alike: as deep as a directory gets they are parted, and deeper they stay together.
func TestAlikeInManyBits(t *testing.T) {
	for _, depth := range []int{1, 5, 9, 10, 11, 13} {
		s, h := fresh(t, 8192)
		keys := alikeIn(depth, 24, 60)
		root := made(s, h, keys...)
		mustTell(t, s, root, asMap(keys))
		mustHave(t, s, h, root)
		x := read(s, root)
		if depth < mostDepth && (x.depth <= depth || len(x.buckets()) < 2) || depth >= mostDepth && (x.depth != 0 || len(x.buckets()) != 1) {
			t.Error(depth, x.depth, len(x.buckets()))
		}
		want := asMap(keys)
		for _, k := range keys {
			root, _ = Del(s, h, root, k)
			delete(want, k)
			s.Commit()
			mustTell(t, s, root, want)
			mustHave(t, s, h, root)
		}
	}
}

// What stood under the old root is given back or goes on: nothing is left of it, and where it is gone that is seen.
func TestTheOldRoot(t *testing.T) {
	s, h := fresh(t, 20368)
	keys := numbered(400, 40)
	root, moved := uint64(0), 0
	for i, k := range keys {
		next := Put(s, h, root, k, uint64(i))
		mustHave(t, s, h, next)
		if root != 0 && next != root {
			moved++
			for _, c := range onRoot(s, h, root, k) {
				if v := panicked(c.f); v != api.ErrForm {
					t.Fatal(c.name, v)
				}
			}
			if Check(s, root) != api.ErrForm {
				t.Error("Check")
			}
		}
		root = next
		s.Commit()
	}
	// The directory outgrew its piece.
	if moved < 3 {
		t.Error(moved)
	}
	for _, k := range keys {
		next, _ := Del(s, h, root, k)
		mustHave(t, s, h, next)
		if next != root && panicked(func() { Get(s, root, k) }) != api.ErrForm {
			t.Fatal("gone, and not seen")
		}
		root = next
		s.Commit()
	}
}

// Several indexes stand beside each other, records and trees too.
func TestManyOnOneHeap(t *testing.T) {
	s, h := fresh(t, 20368)
	r := rand.New(rand.NewSource(3))
	at := rec.Make(s, h, []byte(strings.Repeat("r", 700)))
	top := tree.Put(s, h, 0, "t", 1)
	var roots [5]uint64
	var want [5]map[string]uint64
	for i := range want {
		want[i] = map[string]uint64{}
	}
	for i := range 1500 {
		n, k := r.Intn(5), fmt.Sprint(r.Intn(80))
		if r.Intn(3) > 0 {
			roots[n] = Put(s, h, roots[n], k, uint64(i))
			want[n][k] = uint64(i)
		} else {
			roots[n], _ = Del(s, h, roots[n], k)
			delete(want[n], k)
		}
		s.Commit()
	}
	all := slices.Concat(rec.Pieces(s, h, at), tree.Pieces(s, h, top))
	for i, root := range roots {
		mustTell(t, s, root, want[i])
		all = append(all, Pieces(s, h, root)...)
	}
	slices.Sort(all)
	if !slices.Equal(all, h.Pieces()) {
		t.Error(all, h.Pieces())
	}
	if string(rec.Read(s, h, at)) != strings.Repeat("r", 700) || tree.Len(s, top) != 1 {
		t.Error("a record or a tree is not what it was")
	}
}

// 12.2, W3

// What thins out gives its room back while it does, whatever goes first.
func TestThinIndexes(t *testing.T) {
	for _, long := range []int{5, 30, 80} {
		for order := range 3 {
			s, h := fresh(t, 53136)
			keys := numbered(1500, long)
			root := made(s, h, keys...)
			deep := read(s, root).depth
			switch order {
			case 1:
				slices.Reverse(keys)
			case 2:
				rand.New(rand.NewSource(2)).Shuffle(len(keys), func(i, j int) { keys[i], keys[j] = keys[j], keys[i] })
			}
			for i, k := range keys {
				root, _ = Del(s, h, root, k)
				s.Commit()
				left := len(keys) - i - 1
				if used := h.All() - h.Free(); left > 0 && used > 2*partWords+left*30 {
					t.Fatal(long, left, used)
				}
				if left == 3 && (read(s, root).depth > 0 || len(Pieces(s, h, root)) != 2) {
					t.Fatal(long, "not joined", read(s, root).depth, Pieces(s, h, root))
				}
			}
			if root != 0 || h.Free() != h.All() || deep < 6 {
				t.Error(root, h.Free(), deep)
			}
		}
	}
}

// families are ways to make keys by lot.
func families() map[string]func(r *rand.Rand) string {
	alike, near, nearer := ofOneHash(40), alikeIn(8, 60, 30), alikeIn(11, 30, 50)
	return map[string]func(r *rand.Rand) string{
		"short": func(r *rand.Rand) string { return fmt.Sprint(r.Intn(300)) },
		"long":  func(r *rand.Rand) string { return fmt.Sprintf("%080d", r.Intn(300)) },
		"mixed": func(r *rand.Rand) string { return fmt.Sprint(r.Intn(60)) + strings.Repeat("m", r.Intn(78)) },
		"alike": func(r *rand.Rand) string {
			switch r.Intn(4) {
			case 0:
				return alike[r.Intn(len(alike))]
			case 1:
				return near[r.Intn(len(near))]
			case 2:
				return nearer[r.Intn(len(nearer))]
			}
			return fmt.Sprint(r.Intn(90))
		},
		"one hash": func(r *rand.Rand) string { return alike[r.Intn(len(alike))] },
	}
}

// run is a long run by lot on one index.
type run struct {
	t         *testing.T
	d         *nvm.Device
	s         *tx.Store
	h         *heap.Heap
	r         *rand.Rand
	key       func(r *rand.Rand) string
	puts      int // of ten changes
	want      map[string]uint64
	committed map[string]uint64
	full      int
}

// change puts or takes away a key.
func (x *run) change() {
	k, v := x.key(x.r), x.r.Uint64()
	root, free := x.h.Root(0), x.h.Free()
	if x.r.Intn(10) >= x.puts {
		next, there := Del(x.s, x.h, root, k)
		if _, is := x.want[k]; is != there || !there && next != root {
			x.t.Fatalf("Del %.90q: %v", k, there)
		}
		delete(x.want, k)
		x.h.SetRoot(0, next)
		return
	}
	p := panicked(func() { x.h.SetRoot(0, Put(x.s, x.h, root, k, v)) })
	if p == nil {
		x.want[k] = v
		return
	}
	_, is := x.want[k]
	if p != api.ErrFull || is || x.h.Free() != free || free > 1100 {
		x.t.Fatalf("Put %.90q: %v, there %v, free %d, before %d", k, p, is, x.h.Free(), free)
	}
	x.full++
}

// end commits, aborts, or lets the power go, and opens all anew.
func (x *run) end() {
	switch x.r.Intn(4) {
	case 0:
		x.s.Abort()
		x.want = maps.Clone(x.committed)
	case 1:
		before, after := x.committed, maps.Clone(x.want)
		x.d.Fuse(x.r.Intn(400))
		lost := panicked(x.s.Commit) != nil
		if !lost {
			x.d.Fuse(-1)
			x.committed = after
			return
		}
		var kept []int
		for _, w := range x.d.Waiting() {
			if x.r.Intn(2) == 0 {
				kept = append(kept, w)
			}
		}
		x.d.Power(x.r.Intn(2) == 0, kept)
		x.s, x.h = opened(x.t, x.d)
		x.want = before
		if !told(x.s, x.h.Root(0), before) {
			x.want = after
		}
		x.committed = maps.Clone(x.want)
	default:
		x.s.Commit()
		x.committed = maps.Clone(x.want)
	}
}

// told tells whether an index has just the pairs of m.
func told(s *tx.Store, root uint64, m map[string]uint64) bool {
	for k, v := range m {
		if got, there := Get(s, root, k); got != v || !there {
			return false
		}
	}
	return Len(s, root) == len(m)
}

func TestLongRuns(t *testing.T) {
	full := 0
	for name, key := range families() {
		for seed := range int64(3) {
			d := device(t, []int{1200, 4000, 12000}[seed])
			x := &run{t: t, d: d, r: rand.New(rand.NewSource(seed)), key: key, want: map[string]uint64{}, committed: map[string]uint64{}}
			x.s, x.h = opened(t, d)
			for i := range 1200 {
				// By turns more comes and more goes.
				x.puts = []int{7, 9, 2}[i/200%3]
				x.change()
				if x.s.Pending() > 4000 || x.r.Intn(3) == 0 {
					x.end()
				}
				if i%20 == 0 {
					mustTell(t, x.s, x.h.Root(0), x.want)
					mustHave(t, x.s, x.h, x.h.Root(0))
					mustBeTight(t, x.s, x.h, x.h.Root(0))
					if x.full == 0 && x.h.All() > 9000 {
						mustBeSpread(t, x.s, x.h.Root(0))
					}
				}
			}
			for k := range x.want {
				next, _ := Del(x.s, x.h, x.h.Root(0), k)
				x.h.SetRoot(0, next)
			}
			if x.h.Root(0) != 0 || x.h.Free() != x.h.All() || t.Failed() {
				t.Fatal(name, seed, x.h.Root(0), x.h.Free())
			}
			full += x.full
		}
	}
	if full == 0 {
		t.Error("none was full")
	}
}

// The power goes at each step of one change after the other, whatever is kept: what stands behind it is the index with the change, or without it.
func TestALossAtEachStep(t *testing.T) {
	d := device(t, 2400)
	s, h := opened(t, d)
	keys := numbered(11, 60)
	if e := s.Do(func() { h.SetRoot(0, made(s, h, keys...)) }); e != api.OK {
		t.Fatal(e)
	}
	want := asMap(keys)
	news := alikeIn(4, 9, 61)
	// Buckets are parted for the ones that come, and joined when most have gone.
	type step struct {
		key string
		put bool
	}
	var steps []step
	for _, k := range news {
		steps = append(steps, step{k, true})
	}
	for _, k := range slices.Concat(keys[2:], news) {
		steps = append(steps, step{k, false})
	}
	for n, x := range steps {
		after := maps.Clone(want)
		if x.put {
			after[x.key] = uint64(n)
		} else {
			delete(after, x.key)
		}
		change := func(s *tx.Store, h *heap.Heap) func() {
			return func() {
				if x.put {
					h.SetRoot(0, Put(s, h, h.Root(0), x.key, uint64(n)))
					return
				}
				next, _ := Del(s, h, h.Root(0), x.key)
				h.SetRoot(0, next)
			}
		}
		for k := n % 5; ; k += 5 {
			c := d.Copy()
			s, h := opened(t, c)
			c.Fuse(k)
			e := s.Do(change(s, h))
			if e == api.OK {
				break
			}
			if e != api.ErrDead {
				t.Fatal(n, k, e)
			}
			var kept []int
			for i, w := range c.Waiting() {
				if i%3 == k%3 {
					kept = append(kept, w)
				}
			}
			c.Power(k%2 == 0, kept)
			s, h = opened(t, c)
			mustHave(t, s, h, h.Root(0))
			if told(s, h.Root(0), want) {
				mustTell(t, s, h.Root(0), want)
				continue
			}
			mustTell(t, s, h.Root(0), after)
		}
		s, h := opened(t, d)
		if e := s.Do(change(s, h)); e != api.OK {
			t.Fatal(n, e)
		}
		want = after
	}
	if s, h := opened(t, d); len(want) != 2 || read(s, h.Root(0)).depth != 0 {
		t.Error(len(want), read(s, h.Root(0)).depth)
	}
}

// A Put for which there is no room has changed nothing, whether it is aborted or not; what is there can be replaced, and all of it taken away, though not a word is free.
func TestFull(t *testing.T) {
	for _, keys := range [][]string{numbered(2000, 4), numbered(2000, 30), numbered(2000, 80), ofOneHash(600), alikeIn(7, 300, 70)} {
		s, h := fresh(t, 3000)
		root, n := uint64(0), 0
		v := panicked(func() {
			for i, k := range keys {
				root = Put(s, h, root, k, uint64(i))
				n++
				s.Commit()
			}
		})
		if v != api.ErrFull || h.Free() >= 512 {
			t.Fatal(v, n, h.Free())
		}
		want := asMap(keys[:n])
		mustTell(t, s, root, want)
		mustHave(t, s, h, root)
		s.Commit()
		var filled []int
		for panicked(func() { filled = append(filled, h.Take(8)) }) == nil {
		}
		for _, k := range keys[:n] {
			root = Put(s, h, root, k, 1)
			want[k] = 1
		}
		s.Commit()
		refused := 0
		for _, k := range keys[n:] {
			put := func() { Put(s, h, root, k, 1) }
			if v := panicked(put); v != nil {
				refused++
				if v != api.ErrFull || h.Free() != 0 {
					t.Fatal(v, h.Free())
				}
				if e := s.Do(put); e != api.ErrFull {
					t.Fatal(e)
				}
			}
			s.Abort()
		}
		if refused == 0 {
			t.Error("none was refused")
		}
		mustTell(t, s, root, want)
		for i, k := range keys[:n] {
			there := false
			if root, there = Del(s, h, root, k); !there {
				t.Fatal(k)
			}
			delete(want, k)
			s.Commit()
			// Nor is there when some of it has gone.
			for panicked(func() { filled = append(filled, h.Take(8)) }) == nil {
			}
			s.Commit()
			if i%8 == 0 {
				mustTell(t, s, root, want)
			}
		}
		for _, at := range filled {
			h.Give(at)
		}
		if root != 0 || h.Free() != h.All() {
			t.Error(root, h.Free())
		}
	}
}

// Where there is no room to double the directory a bucket goes on in a further piece; when it has grown small again it is parted as any other.
func TestNoRoomToDouble(t *testing.T) {
	s, h := fresh(t, 20368)
	// Every other piece of 64 words is free, and none that is longer.
	var between []int
	for panicked(func() { between = append(between, h.Take(64)) }) == nil {
	}
	var kept []int
	for i, at := range between {
		if i%2 == 0 {
			h.Give(at)
		} else {
			kept = append(kept, at)
		}
	}
	s.Commit()
	keys := numbered(500, 50)
	root := made(s, h, keys...)
	mustTell(t, s, root, asMap(keys))
	long := 0
	for _, b := range read(s, root).buckets() {
		long = max(long, len(slices.Collect(chainAt(s, b.at))))
	}
	if d := read(s, root).depth; d != 7 || long < 2 {
		t.Error(d, long)
	}
	for _, at := range kept {
		h.Give(at)
	}
	s.Commit()
	mustHave(t, s, h, root)
	mustBeTight(t, s, h, root)
	more := slices.Concat(keys, numbered(300, 51))
	wide := root
	for i, k := range more[500:] {
		wide = Put(s, h, wide, k, uint64(500+i))
	}
	mustTell(t, s, wide, asMap(more))
	mustHave(t, s, h, wide)
	if d := read(s, wide).depth; d <= 7 {
		t.Error(d)
	}
	s.Abort()
	want := asMap(keys)
	for _, k := range keys[:400] {
		root, _ = Del(s, h, root, k)
		delete(want, k)
		s.Commit()
		mustHave(t, s, h, root)
	}
	mustTell(t, s, root, want)
	for i, k := range keys[:400] {
		root = Put(s, h, root, k, uint64(i))
		want[k] = uint64(i)
		s.Commit()
	}
	mustTell(t, s, root, want)
	mustHave(t, s, h, root)
	if d := read(s, root).depth; d <= 7 {
		t.Error(d)
	}
}

// A bucket that has grown long because there was no room to part it is not written anew at once when there is: that would be too much for a transaction.
func TestALongBucketThatCouldBeParted(t *testing.T) {
	s, h := fresh(t, 53136)
	var all []int
	for panicked(func() { all = append(all, h.Take(64)) }) == nil {
		s.Commit()
	}
	keys := alikeIn(8, 560, 70)
	root, n := uint64(0), 0
	for i, at := range all {
		if i%2 == 0 {
			h.Give(at)
		}
	}
	s.Commit()
	for i, k := range keys[:550] {
		root = Put(s, h, root, k, uint64(i))
		s.Commit()
	}
	for _, b := range read(s, root).buckets() {
		n = max(n, len(slices.Collect(chainAt(s, b.at))))
	}
	if n < 100 {
		t.Fatal(n)
	}
	for i, at := range all {
		if i%2 == 1 {
			h.Give(at)
		}
	}
	s.Commit()
	for i, k := range keys[550:] {
		root = Put(s, h, root, k, uint64(550+i))
		if s.Pending() > 300 {
			t.Fatal(s.Pending())
		}
		s.Commit()
	}
	mustTell(t, s, root, asMap(keys))
	mustHave(t, s, h, root)
	for _, k := range keys {
		root, _ = Del(s, h, root, k)
		s.Commit()
	}
	if root != 0 || h.Free() != h.All() {
		t.Error(root, h.Free())
	}
}

// Pieces that a bucket no longer needs when it is parted are given back.
func TestPartedIntoFewer(t *testing.T) {
	s, h := fresh(t, 4096)
	x := indexOf(s, h, 0)
	b := &bucket{}
	all := numbered(40, 64)
	side := func(n int) func(k string) bool { return func(k string) bool { return prefix(k, 1) == n } }
	// Six and six, which fit a piece each, but stand four a piece.
	keys := slices.Concat(slices.DeleteFunc(slices.Clone(all), side(0))[:6], slices.DeleteFunc(slices.Clone(all), side(1))[:6])
	for i := range 3 {
		var l []pair
		for k, key := range keys[4*i : 4*i+4] {
			l = append(l, pair{key, uint64(4*i + k)})
		}
		b.parts = append(b.parts, part{pairs: l})
	}
	b.parts[2].pairs = b.parts[2].pairs[:3]
	x.to[0], x.pairs, x.changed = b, 11, []*bucket{b}
	root := x.write()
	mustTell(t, s, root, asMap(keys[:11]))
	if n := len(Pieces(s, h, root)); n != 4 {
		t.Fatal(n)
	}
	root = Put(s, h, root, keys[11], 11)
	mustTell(t, s, root, asMap(keys))
	mustHave(t, s, h, root)
	if n := len(Pieces(s, h, root)); n != 3 {
		t.Error(n)
	}
}

// A piece is filled to its last word.
func TestFullPieces(t *testing.T) {
	s, h := fresh(t, 4096)
	root := made(s, h, numbered(21, 8)...)
	if n := len(Pieces(s, h, root)); n != 2 {
		t.Error(n)
	}
	root = Put(s, h, root, "22", 1)
	if n := len(Pieces(s, h, root)); n != 3 {
		t.Error(n)
	}
	root, _ = Del(s, h, root, "22")
	if n := len(Pieces(s, h, root)); n != 2 || read(s, root).depth != 0 {
		t.Error(n)
	}
}

// A change writes few words beside those of the pair, so that several of them have room in one transaction.
func TestWordsOfAChange(t *testing.T) {
	for name, key := range families() {
		r := rand.New(rand.NewSource(2))
		s, h := fresh(t, 53136)
		root := uint64(0)
		sum, n := 0, 0
		for i := range 3000 {
			k := key(r)
			if i%2 == 0 || i < 500 {
				root = Put(s, h, root, k, r.Uint64())
			} else {
				root, _ = Del(s, h, root, k)
			}
			if s.Pending() > 700 {
				t.Fatal(name, s.Pending())
			}
			sum += s.Pending()
			n++
			s.Commit()
		}
		if mean := sum / n; mean > 60 {
			t.Error(name, "writes", mean)
		}
	}
}

// However little room a transaction has left, a change is done in it, or its error told.
func TestATransactionThatIsNearlyTooGreat(t *testing.T) {
	s, h := fresh(t, 20368)
	keys := numbered(100, 60)
	root := made(s, h, keys...)
	want := asMap(keys)
	counts := map[any]int{}
	for left := 0; left < 300; left += 4 {
		fill := func() {
			for i := range api.MaxWrites - left {
				s.Put(s.Size()/2+i, uint64(i))
			}
		}
		fill()
		var next uint64
		v := panicked(func() { next = Put(s, h, root, "00x", 1) })
		if v == nil {
			want["00x"] = 1
			mustTell(t, s, next, want)
			delete(want, "00x")
		}
		counts[v]++
		s.Abort()
		e := s.Do(func() {
			fill()
			Del(s, h, root, keys[left%100])
			panic(api.ErrNone)
		})
		if e != api.ErrBig && e != api.ErrNone {
			t.Fatal(left, e)
		}
		mustTell(t, s, root, want)
	}
	if counts[nil] == 0 || counts[api.ErrBig] == 0 || len(counts) != 2 {
		t.Error(counts)
	}
	mustHave(t, s, h, root)
}

func TestDead(t *testing.T) {
	d := device(t, 4096)
	s, h := opened(t, d)
	keys := numbered(30, 30)
	root := made(s, h, keys...)
	d.Fuse(0)
	panicked(d.Fence)
	for _, c := range append(onRoot(s, h, root, keys[0]), call{"Check", func() { Check(s, root) }}) {
		if v := panicked(c.f); v != (nvm.Lost{}) {
			t.Error(c.name, v)
		}
	}
	if v := panicked(func() { Put(s, h, root, "", 1) }); v != api.ErrArg {
		t.Error(v)
	}
	if e := s.Do(func() { Get(s, root, "a") }); e != api.ErrDead {
		t.Error(e)
	}
	d.Power(false, nil)
	s, h = opened(t, d)
	mustTell(t, s, root, asMap(keys))
	mustHave(t, s, h, root)
}

func TestMemoryOfItsOwn(t *testing.T) {
	s, h := fresh(t, 8192)
	keys := numbered(60, 30)
	root := made(s, h, keys...)
	places := Pieces(s, h, root)
	clear(places[:cap(places)])
	mustTell(t, s, root, asMap(keys))
	mustHave(t, s, h, root)
}

// 12.3

// Roots at which no index stands are seen, and nothing is changed.
func TestNoIndexStands(t *testing.T) {
	s, h := fresh(t, 8192)
	keys := numbered(100, 30)
	root := made(s, h, keys...)
	at := rec.Make(s, h, []byte(strings.Repeat("r", 700)))
	top := tree.Put(s, h, 0, "t", 1)
	empty := h.Take(64)
	s.Commit()
	x := read(s, root)
	roots := []uint64{1, 7, 8, uint64(at), top, uint64(empty), uint64(x.to[0].at), root + 1, root + 8, uint64(s.Size()) - 8, uint64(s.Size()) - 1, uint64(s.Size()), 1 << 32, root | 1<<40, root | 1<<63, math.MaxInt64, math.MaxUint64, math.MaxUint64 - 7}
	for _, r := range roots {
		for _, c := range onRoot(s, h, r, keys[0]) {
			if v := panicked(c.f); v != api.ErrForm || s.Pending() != 0 {
				t.Error(r, c.name, v, s.Pending())
			}
		}
		if e := Check(s, r); e != api.ErrForm {
			t.Error(r, "Check", e)
		}
		if v := panicked(func() { Put(s, h, r, "", 1) }); v != api.ErrArg {
			t.Error(r, v)
		}
	}
	mustTell(t, s, root, asMap(keys))
}

// An index whose words stand, but not in pieces that are taken as they should be, is not written to.
func TestPiecesThatAreNotTaken(t *testing.T) {
	for _, c := range []struct {
		directory, part int // how many words the pieces have
		given           int // which of them is given back: 1, 2
		fine            bool
	}{
		{8, 64, 0, true}, {9, 64, 0, false}, {7, 64, 0, false}, {8, 63, 0, false}, {8, 65, 0, false}, {8, 64, 1, false}, {8, 64, 2, false},
	} {
		s, h := fresh(t, 2048)
		places := []int{h.Take(c.directory), h.Take(c.part)}
		root := crafted(s, places[0], part{at: places[1], pairs: []pair{{"a", 1}, {"b", 2}}})
		if c.given > 0 {
			h.Give(places[c.given-1])
		}
		s.Commit()
		if v, there := Get(s, root, "b"); v != 2 || !there || Len(s, root) != 2 || Check(s, root) != api.OK {
			t.Error(c, v, there)
		}
		for _, x := range onRoot(s, h, root, "a") {
			if x.name == "Get" || x.name == "Len" {
				continue
			}
			v := panicked(x.f)
			if c.fine != (v == nil) || !c.fine && (v != api.ErrForm || s.Pending() != 0) {
				t.Error(c, x.name, v, s.Pending())
			}
			s.Abort()
		}
	}
}

// crafted is an index of one bucket, written at a place.
func crafted(s *tx.Store, at int, chain ...part) uint64 {
	b := &bucket{at: chain[0].at, parts: chain}
	b.write(s)
	x := &index{directory: directory{at: at, pairs: len(pairsOf(chain))}, s: s, to: []*bucket{b}}
	x.writeHead(s)
	x.writeEntries()
	return uint64(at)
}

// Pieces that a bucket can't have are seen by whoever reads them.
func TestPiecesThatAreNone(t *testing.T) {
	for name, chain := range map[string][]part{
		"an empty key":        {{pairs: []pair{{"", 1}}}},
		"a long key":          {{pairs: []pair{{strings.Repeat("x", 81), 1}}}},
		"a very long key":     {{pairs: []pair{{strings.Repeat("x", 400), 1}}}},
		"no pairs at first":   {{}, {pairs: []pair{{"a", 1}}}},
		"no pairs at last":    {{pairs: []pair{{"a", 1}}}, {}},
		"no pairs in between": {{pairs: []pair{{"a", 1}}}, {}, {pairs: []pair{{"b", 1}}}},
	} {
		s, h := fresh(t, 2048)
		for i := range chain {
			chain[i].at = h.Take(partWords)
		}
		root := crafted(s, h.Take(8), chain...)
		s.Commit()
		if Check(s, root) != api.ErrForm {
			t.Error(name, "Check")
		}
		for _, x := range onRoot(s, h, root, "z") {
			if x.name == "Len" || x.name == "Pieces" {
				continue
			}
			if v := panicked(x.f); v != api.ErrForm || s.Pending() != 0 {
				t.Error(name, x.name, v, s.Pending())
			}
		}
	}
}

// Behind a key's last byte its words are 0.
func TestAKeyWithATail(t *testing.T) {
	s, h := fresh(t, 2048)
	root := Put(s, h, 0, "a", 1)
	key := partAt(s, read(s, root).to[0].at).place(0) + 2
	s.Put(key, s.Load(key)|1<<8)
	s.Commit()
	for _, x := range onRoot(s, h, root, "a") {
		if x.name == "Len" || x.name == "Pieces" {
			continue
		}
		if v := panicked(x.f); v != api.ErrForm || s.Pending() != 0 {
			t.Error(x.name, v, s.Pending())
		}
	}
	if Check(s, root) != api.ErrForm {
		t.Error("Check")
	}
}

// A bucket that leads back to itself has no end; whoever looks for a key that is not there sees it.
func TestABucketWithoutEnd(t *testing.T) {
	s, h := fresh(t, 2048)
	one, two := h.Take(partWords), h.Take(partWords)
	root := crafted(s, h.Take(8), part{at: one, pairs: []pair{{"a", 1}}}, part{at: two, pairs: []pair{{"b", 1}}})
	for _, back := range []int{one, two} {
		s.Put(two, s.Load(two)&^fieldMask|line(back))
		s.Commit()
		for _, x := range onRoot(s, h, root, "z") {
			v := panicked(x.f)
			if x.name == "Len" || x.name == "Pieces" {
				if v != nil {
					t.Error(x.name, v)
				}
				continue
			}
			if v != api.ErrForm || s.Pending() != 0 {
				t.Error(x.name, v, s.Pending())
			}
		}
		if l := Pieces(s, h, root); !slices.Equal(l, h.Pieces()) {
			t.Error(l)
		}
		if Check(s, root) != api.ErrForm {
			t.Error("Check")
		}
	}
}

// A key that is in the wrong bucket is seen when the bucket is parted.
func TestPartedWithAKeyOfAnother(t *testing.T) {
	s, h := fresh(t, 20368)
	keys := numbered(200, 70)
	root := made(s, h, keys...)
	x := read(s, root)
	var full []*bucket
	for _, b := range x.buckets() {
		if p := partAt(s, b.at); p.next == 0 && len(p.pairs) == 5 {
			full = append(full, b)
		}
	}
	b, c := partAt(s, full[0].at), partAt(s, full[len(full)-1].at)
	own := b.pairs[0].key
	b.pairs[0], c.pairs[0] = c.pairs[0], b.pairs[0]
	b.write(s)
	c.write(s)
	s.Commit()
	if Check(s, root) != api.ErrForm {
		t.Error("Check")
	}
	seen := 0
	for i := range 5000 {
		k := fmt.Sprintf("%070d", 1000+i)
		if prefix(k, x.depth) == prefix(own, x.depth) {
			seen++
			if v := panicked(func() { Put(s, h, root, k, 1) }); v != api.ErrForm || s.Pending() != 0 {
				t.Error(v, s.Pending())
			}
		}
	}
	if seen == 0 {
		t.Error("no such key")
	}
}

// An index stands at a place of the heap's, and ends within the store.
func TestPlaces(t *testing.T) {
	s, h := fresh(t, 2048)
	inside := crafted(s, h.Take(64)+1, part{at: h.Take(64), pairs: []pair{{"a", 1}}})
	last := s.Size() - api.Line
	s.Put(last, directoryMark<<markShift|mostDepth)
	s.Put(last+pairsAt, 1)
	s.Commit()
	for _, r := range []uint64{inside, uint64(last)} {
		for _, x := range onRoot(s, h, r, "a") {
			if v := panicked(x.f); v != api.ErrForm || s.Pending() != 0 {
				t.Error(r, x.name, v, s.Pending())
			}
		}
		if Check(s, r) != api.ErrForm {
			t.Error(r, "Check")
		}
	}
}

// A bucket in the store's last words, of which the last pair would end behind them.
func TestTheLastWords(t *testing.T) {
	s, h := fresh(t, 2048)
	end := s.Size() - partWords
	at := h.Take(8)
	for at >= end {
		at = h.Take(8)
	}
	for left, c := range []struct{ keys, first int }{{21, 1}, {20, 24}, {20, 16}, {20, 1}} {
		p := part{at: end, pairs: []pair{{strings.Repeat("a", c.first), 1}}}
		for i := 1; i < c.keys; i++ {
			p.pairs = append(p.pairs, pair{string([]byte{byte('a' + i)}), 1})
		}
		root := crafted(s, at, p)
		if Check(s, root) != api.OK {
			t.Error(left, "Check")
		}
		s.Put(end, s.Load(end)+1<<itemsShift)
		if left > 1 {
			s.Put(s.Size()-left+1, 80)
		}
		s.Commit()
		for _, x := range onRoot(s, h, root, "0") {
			if x.name == "Len" || x.name == "Pieces" {
				continue
			}
			if v := panicked(x.f); v != api.ErrForm || s.Pending() != 0 {
				t.Error(left, x.name, v, s.Pending())
			}
		}
		if p.words()+left != partWords || Check(s, root) != api.ErrForm {
			t.Error(left, p.words(), "Check")
		}
	}
}

// Check sees each kind of fault; what it sees is seen by whoever reads that place.
func TestCheck(t *testing.T) {
	s, h := fresh(t, 20368)
	keys := numbered(200, 30)
	alike := ofOneHash(12)
	root := made(s, h, slices.Concat(keys, alike)...)
	x := read(s, root)
	k := prefix(alike[0], x.depth)
	chain := slices.Collect(chainAt(s, x.to[k].at))
	if len(chain) < 3 || x.depth < 4 {
		t.Fatal(len(chain), x.depth)
	}
	plain := func() part {
		for _, b := range x.buckets() {
			if l := slices.Collect(chainAt(s, b.at)); len(l) == 1 && len(l[0].pairs) >= 2 {
				return l[0]
			}
		}
		t.Fatal("no such bucket")
		return part{}
	}()
	// two are buckets of one entry each, that lie beside each other.
	two := func() int {
		for i := 0; i < len(x.to); i += 2 {
			if x.to[i] != nil && x.to[i+1] != nil && x.to[i] != x.to[i+1] {
				return i
			}
		}
		t.Fatal("no such entries")
		return 0
	}()
	setEntry := func(i, at int) {
		w, shift := x.at+entriesAt+i/entriesAWord, i%entriesAWord*entryBits
		s.Put(w, s.Load(w)&^(fieldMask<<shift)|line(at)<<shift)
	}
	faults := map[string]func(){
		"a key elsewhere": func() {
			p, q := partAt(s, x.to[two].at), partAt(s, x.to[two+1].at)
			p.pairs, q.pairs = q.pairs, p.pairs
			p.write(s)
			q.write(s)
		},
		"entries changed": func() {
			setEntry(two, x.to[two+1].at)
			setEntry(two+1, x.to[two].at)
		},
		"a key twice in a piece":   func() { plain.with(pair{plain.pairs[0].key, 9}, s) },
		"a key twice in a bucket":  func() { chain[2].with(chain[0].pairs[0], s) },
		"a key too many":           func() { s.Put(x.at+pairsAt, s.Load(x.at+pairsAt)-1) },
		"a key too few":            func() { s.Put(x.at+pairsAt, s.Load(x.at+pairsAt)+1) },
		"none":                     func() { s.Put(x.at+pairsAt, 0) },
		"more than have room":      func() { s.Put(x.at+pairsAt, uint64(s.Size())+1) },
		"many more":                func() { s.Put(x.at+pairsAt, math.MaxUint64) },
		"an entry of none":         func() { setEntry(two, 0) },
		"an entry of another":      func() { setEntry(two, x.to[two+1].at) },
		"an entry outside":         func() { setEntry(two, s.Size()) },
		"an entry near the end":    func() { setEntry(two, s.Size()-8) },
		"an entry of the heap":     func() { setEntry(two, 8) },
		"an entry of a record":     func() { setEntry(two, rec.Make(s, h, []byte("hi"))) },
		"an entry of a directory":  func() { setEntry(two, x.at) },
		"a bucket in two places":   func() { setEntry(two, x.to[(two+4)%len(x.to)].at) },
		"another mark":             func() { s.Put(x.at, s.Load(x.at)^1<<40) },
		"a part's other mark":      func() { s.Put(chain[1].at, s.Load(chain[1].at)^1<<40) },
		"less deep":                func() { s.Put(x.at, s.Load(x.at)-1) },
		"too deep":                 func() { s.Put(x.at, directoryMark<<markShift|11) },
		"much too deep":            func() { s.Put(x.at, directoryMark<<markShift|0xffffffff) },
		"a bucket that has no end": func() { s.Put(chain[2].at, s.Load(chain[2].at)|line(chain[0].at)) },
		"a piece that leads on to itself": func() {
			s.Put(plain.at, s.Load(plain.at)|line(plain.at))
		},
		"a bucket that leads on to another": func() { s.Put(plain.at, s.Load(plain.at)|line(chain[0].at)) },
		"a bucket that leads outside":       func() { s.Put(plain.at, s.Load(plain.at)|fieldMask) },
		"a bucket cut short":                func() { s.Put(chain[0].at, s.Load(chain[0].at)&^fieldMask) },
		"a piece of no pairs":               func() { s.Put(plain.at, s.Load(plain.at)&^(fieldMask<<itemsShift)) },
		"a piece of one pair less":          func() { s.Put(plain.at, s.Load(plain.at)-1<<itemsShift) },
		"a piece of one pair more":          func() { s.Put(plain.at, s.Load(plain.at)+1<<itemsShift) },
		"a piece of very many pairs":        func() { s.Put(plain.at, s.Load(plain.at)|fieldMask<<itemsShift) },
		"an empty key":                      func() { s.Put(plain.place(0)+1, 0) },
		"a long key":                        func() { s.Put(plain.place(0)+1, 81) },
		"a very long key":                   func() { s.Put(plain.place(0)+1, math.MaxUint64) },
		"a key that ends elsewhere":         func() { s.Put(plain.place(0)+1, 29) },
		"a key that goes beyond":            func() { s.Put(plain.place(len(plain.pairs)-1)+1, 80) },
		"another key":                       func() { s.Put(plain.place(0)+2, s.Load(plain.place(0)+2)^1) },
		"a key with a tail":                 func() { s.Put(plain.place(0)+5, s.Load(plain.place(0)+5)|1<<63) },
	}
	s.Commit()
	for name, f := range faults {
		f()
		if e := Check(s, root); e != api.ErrForm {
			t.Error(name, e)
		}
		if name == "none" || strings.HasPrefix(name, "m") {
			// Of these the directory's own words can't be.
			for _, c := range onRoot(s, h, root, keys[0]) {
				if v := panicked(c.f); v != api.ErrForm {
					t.Error(name, c.name, v)
				}
			}
		}
		s.Abort()
		if e := Check(s, root); e != api.OK {
			t.Fatal(name, "mended:", e)
		}
	}
}

// with writes the part with one pair more.
func (p part) with(q pair, s *tx.Store) {
	p.pairs = append(slices.Clone(p.pairs), q)
	if p.words() > partWords {
		panic("no room")
	}
	p.write(s)
}

// The entries of one bucket lie together, as halving gives them.
func TestEntriesThatLieElsewhere(t *testing.T) {
	s, h := fresh(t, 8192)
	x := &index{s: s, h: h, to: make([]*bucket, 8)}
	x.depth = 3
	for name, l := range map[string]string{
		"aligned":    "aabbccdd",
		"unlike":     "abcccccc",
		"gaps":       "a-bb---c",
		"three":      "aaabccdd",
		"across":     "abbcdddd",
		"apart":      "aabbaacc",
		"apart once": "abac----",
	} {
		buckets := map[rune]*bucket{}
		for i, c := range l {
			x.to[i] = nil
			if c == '-' {
				continue
			}
			if buckets[c] == nil {
				buckets[c] = &bucket{at: 8 * int(c)}
			}
			x.to[i] = buckets[c]
		}
		x.at, x.pairs = h.Take(x.words()), 1
		x.writeHead(s)
		x.writeEntries()
		v := panicked(func() { read(s, uint64(x.at)) })
		if fine := name == "aligned" || name == "gaps"; fine != (v == nil) || !fine && v != api.ErrForm {
			if name != "unlike" {
				t.Error(name, v)
			}
		}
		s.Abort()
	}
}

// A bucket that leads on to the one beside it, with which it is joined: no piece is given twice.
func TestAPieceOfTwoBuckets(t *testing.T) {
	s, h := fresh(t, 4096)
	keys := numbered(30, 30)
	root := made(s, h, keys...)
	for i := 0; read(s, root).depth != 1 || Len(s, root) > 12; i++ {
		root, _ = Del(s, h, root, keys[i])
	}
	s.Commit()
	x := read(s, root)
	for _, side := range []int{0, 1} {
		p, beside := partAt(s, x.to[side].at), partAt(s, x.to[1-side].at)
		p.pairs, p.next = p.pairs[:2], beside.at
		beside.pairs = beside.pairs[:2]
		p.write(s)
		beside.write(s)
		s.Commit()
		if Check(s, root) != api.ErrForm {
			t.Error("Check")
		}
		if v := panicked(func() { Del(s, h, root, p.pairs[0].key) }); v != api.ErrForm || s.Pending() != 0 {
			t.Error(v, s.Pending())
		}
		if l := Pieces(s, h, root); !slices.Equal(l, h.Pieces()) {
			t.Error(l, h.Pieces())
		}
		p.next = 0
		p.write(s)
		s.Commit()
	}
}

// Whatever words stand in an index's pieces, every call ends, and panics as said, if it does.
func TestHostileWords(t *testing.T) {
	r := rand.New(rand.NewSource(4))
	s, h := fresh(t, 12000)
	keys := slices.Concat(numbered(150, 20), ofOneHash(20))
	root := made(s, h, keys...)
	places := Pieces(s, h, root)
	counts := map[any]int{}
	for range 4000 {
		for range 1 + r.Intn(4) {
			at := places[r.Intn(len(places))]
			if r.Intn(3) == 0 {
				at = int(root)
			}
			i := at + r.Intn(h.Size(at))
			if r.Intn(3) == 0 {
				i = at
			}
			switch r.Intn(4) {
			case 0:
				s.Put(i, r.Uint64())
			case 1:
				s.Put(i, s.Load(i)^1<<r.Intn(64))
			case 2:
				from := places[r.Intn(len(places))]
				s.Put(i, s.Load(from+r.Intn(h.Size(from))))
			default:
				shift := r.Intn(4) * entryBits
				s.Put(i, s.Load(i)&^(fieldMask<<shift)|line(places[r.Intn(len(places))])<<shift)
			}
		}
		key := keys[r.Intn(len(keys))]
		if Check(s, root) == api.OK {
			mustBeFound(t, s, root)
		}
		for _, c := range onRoot(s, h, root, key[1:]) {
			pending, free := s.Pending(), h.Free()
			v := panicked(c.f)
			counts[v]++
			if v != nil && v != api.ErrForm || v != nil && (h.Free() != free || s.Pending() != pending) {
				t.Fatal(c.name, v, free-h.Free(), s.Pending()-pending)
			}
		}
		for _, c := range onRoot(s, h, root, key) {
			// Some keys are as long as may be.
			if v := panicked(c.f); v != nil && v != api.ErrForm && (v != api.ErrArg || c.name != "Put") {
				t.Fatal(c.name, v)
			}
		}
		s.Abort()
	}
	if counts[nil] == 0 || counts[api.ErrForm] == 0 || len(counts) != 2 {
		t.Error(counts)
	}
	mustTell(t, s, root, asMap(keys))
}

// mustBeFound checks that all keys which stand anywhere are found.
func mustBeFound(t *testing.T, s *tx.Store, root uint64) {
	t.Helper()
	n := 0
	for _, b := range read(s, root).buckets() {
		for _, p := range pairsOf(slices.Collect(chainAt(s, b.at))) {
			if v, there := Get(s, root, p.key); v != p.v || !there {
				t.Fatal("Check said OK")
			}
			n++
		}
	}
	if n != Len(s, root) {
		t.Fatal("Check said OK", n, Len(s, root))
	}
}
