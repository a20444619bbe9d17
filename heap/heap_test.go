package heap

import (
	"maps"
	"math"
	"math/rand"
	"slices"
	"testing"

	"reliquary/api"
	"reliquary/nvm"
	"reliquary/tx"
)

// panicked is what f panics with; nil if it does not.
func panicked(f func()) (v any) {
	defer func() { v = recover() }()
	f()
	return nil
}

// device is one whose store has so many words.
func device(t *testing.T, size int) *nvm.Device {
	t.Helper()
	d, e := nvm.New(12400 + size)
	if e != api.OK || tx.Room(12400+size) != size {
		t.Fatal("New", size, e)
	}
	return d
}

func store(t *testing.T, d *nvm.Device) *tx.Store {
	t.Helper()
	s, e := tx.Open(d)
	if e != api.OK {
		t.Fatal("tx.Open", e)
	}
	return s
}

func opened(t *testing.T, s *tx.Store) *Heap {
	t.Helper()
	h, e := Open(s)
	if e != api.OK || h == nil {
		t.Fatal("Open", e)
	}
	return h
}

// fresh is an empty heap on a store of so many words, the store and its device.
func fresh(t *testing.T, size int) (*Heap, *tx.Store, *nvm.Device) {
	t.Helper()
	d := device(t, size)
	s := store(t, d)
	return opened(t, s), s, d
}

// die lets the power go.
func die(d *nvm.Device) {
	d.Fuse(0)
	panicked(d.Fence)
}

// must does f within a transaction that may not fail.
func must(t *testing.T, s *tx.Store, f func()) {
	t.Helper()
	if e := s.Do(f); e != api.OK {
		t.Fatal("Do", e)
	}
}

// holds is how many words a piece of so many that were asked for holds.
func holds(words int) int {
	n := 8
	for n < words {
		n *= 2
	}
	return n
}

// mustStand checks all that a heap tells against the pieces that are taken, by their places with what was asked for.
func mustStand(t *testing.T, h *Heap, pieces map[int]int) {
	t.Helper()
	places := slices.Sorted(maps.Keys(pieces))
	if got := h.Pieces(); !slices.Equal(got, places) {
		t.Fatal("Pieces", got, places)
	}
	free, end := h.All(), 1
	for _, at := range places {
		if h.Size(at) != pieces[at] || at < end || at%8 != 0 {
			t.Fatal("piece", at, h.Size(at), pieces[at], end)
		}
		end = at + holds(pieces[at])
		free -= holds(pieces[at])
	}
	if end > h.s.Size() || h.Free() != free || h.Check() != api.OK {
		t.Fatal(end, h.s.Size(), "Free", h.Free(), free, "Check", h.Check())
	}
}

// noughts tells whether a piece is all 0, to its very end.
func noughts(s *tx.Store, at, words int) bool {
	for i := range holds(words) {
		if s.Load(at+i) != 0 {
			return false
		}
	}
	return true
}

func fill(s *tx.Store, at, words int, v uint64) {
	for i := range words {
		s.Put(at+i, v)
	}
}

func reading(s *tx.Store) []uint64 {
	l := make([]uint64, s.Size())
	for i := range l {
		l[i] = s.Load(i)
	}
	return l
}

// takeAll takes pieces of so many words until there are no more, in transactions of their own.
func takeAll(t *testing.T, h *Heap, s *tx.Store, words int) []int {
	t.Helper()
	var l []int
	for {
		e := s.Do(func() { l = append(l, h.Take(words)) })
		if e == api.ErrFull {
			return l
		}
		if e != api.OK {
			t.Fatal("Take", words, e)
		}
	}
}

func asked(places []int, words int) map[int]int {
	m := map[int]int{}
	for _, at := range places {
		m[at] = words
	}
	return m
}

var sizes = []int{1024, 1032, 1040, 1080, 1536, 1544, 2048, 3984, 4096, 8192, 20368, 53128, 53136}

// 8.1

func TestOpenErrors(t *testing.T) {
	if h, e := Open(nil); h != nil || e != api.ErrArg {
		t.Error(h, e)
	}
	for _, size := range []int{8, 16, 512, 1008, 1016} {
		d := device(t, size)
		s := store(t, d)
		for _, dead := range []bool{false, true} {
			if dead {
				die(d)
			}
			if h, e := Open(s); h != nil || e != api.ErrArg {
				t.Error(size, dead, e)
			}
		}
	}
	for _, size := range []int{1024, 53136} {
		d := device(t, size)
		s := store(t, d)
		die(d)
		for range 2 {
			if h, e := Open(s); h != nil || e != api.ErrDead {
				t.Error(size, e)
			}
		}
		d.Power(false, nil)
		opened(t, store(t, d))
	}
}

func TestAStoreOfNoughtsIsAnEmptyHeap(t *testing.T) {
	for _, size := range sizes {
		h, s, d := fresh(t, size)
		all := h.All()
		if s.Pending() != 0 || all%8 != 0 || all < size-size/16-64 || all > size-24 {
			t.Error(size, all, s.Pending())
		}
		for _, h := range []*Heap{h, opened(t, s), opened(t, store(t, d))} {
			if h.All() != all || h.Free() != all {
				t.Error(size, h.All(), h.Free(), all)
			}
			for i := range 16 {
				if h.Root(i) != 0 {
					t.Error(size, i, h.Root(i))
				}
			}
			mustStand(t, h, nil)
		}
	}
}

// What stands in words that no piece has is nothing to a heap that begins; what stands in its own words is not written over.
func TestOpenOfWordsOfOthers(t *testing.T) {
	for _, at := range []int{1023, 1016, 512} {
		s := store(t, device(t, 1024))
		s.Put(at, 5)
		h := opened(t, s)
		mustStand(t, h, nil)
		if h.Take(512); !noughts(s, h.Pieces()[0], 512) {
			t.Error(at, h.Pieces())
		}
	}
	for _, at := range []int{0, 1, 2, 17, 20, 40} {
		s := store(t, device(t, 1024))
		s.Put(at, 5)
		want := reading(s)
		h := opened(t, s)
		if h.Check() != api.ErrForm || !slices.Equal(reading(s), want) {
			t.Error(at, h.Check())
		}
	}
}

func TestOpenedHeapIsAsCommitted(t *testing.T) {
	h, s, d := fresh(t, 4096)
	pieces := map[int]int{}
	must(t, s, func() {
		for _, words := range []int{1, 9, 512, 100, 8} {
			at := h.Take(words)
			pieces[at] = words
			fill(s, at, words, uint64(words))
		}
		h.SetRoot(3, 7)
	})
	h.Take(5)
	h.SetRoot(3, 8)
	again := opened(t, store(t, d))
	mustStand(t, again, pieces)
	if again.Root(3) != 7 || again.All() != h.All() {
		t.Error(again.Root(3), again.All(), h.All())
	}
	for at, words := range pieces {
		for i := range words {
			if again.s.Load(at+i) != uint64(words) {
				t.Fatal(at, words, i)
			}
		}
	}
}

// Open is a Do: it commits what was Put, and a transaction that is too great is aborted.
func TestOpenIsADo(t *testing.T) {
	d := device(t, 20368)
	s := store(t, d)
	s.Put(20000, 5)
	h := opened(t, s)
	if s.Pending() != 0 || store(t, d).Load(20000) != 5 {
		t.Error(s.Pending())
	}
	mustStand(t, h, nil)
	s = store(t, device(t, 20368))
	for i := range api.MaxWrites {
		s.Put(10000+i, 1)
	}
	if h, e := Open(s); h != nil || e != api.ErrBig || s.Pending() != 0 {
		t.Error(e, s.Pending())
	}
	mustStand(t, opened(t, s), nil)
}

func TestOpenWhileThePowerGoes(t *testing.T) {
	d := device(t, 1032)
	k := 0
	for ; ; k++ {
		c := d.Copy()
		s := store(t, c)
		c.Fuse(k)
		h, e := Open(s)
		if e == api.OK {
			break
		}
		if h != nil || e != api.ErrDead {
			t.Error(k, e)
		}
		for _, l := range keeps(c.Waiting()) {
			back := c.Copy()
			back.Power(false, l)
			mustStand(t, opened(t, store(t, back)), nil)
		}
	}
	if k < 5 {
		t.Error("nothing was written", k)
	}
}

func TestCallsPanicAsTheStoreDoes(t *testing.T) {
	h, s, d := fresh(t, 1024)
	var at int
	must(t, s, func() { at = h.Take(9) })
	die(d)
	for name, f := range map[string]func(){
		"Take": func() { h.Take(1) }, "Give": func() { h.Give(at) }, "Size": func() { h.Size(at) },
		"Root": func() { h.Root(0) }, "SetRoot": func() { h.SetRoot(0, 1) }, "Free": func() { h.Free() },
		"Pieces": func() { h.Pieces() }, "Sweep": func() { h.Sweep(func(int) bool { return true }) }, "Check": func() { h.Check() },
	} {
		if v := panicked(f); v != (nvm.Lost{}) {
			t.Error(name, v)
		}
	}
	if e := s.Do(func() { h.Take(1) }); e != api.ErrDead {
		t.Error(e)
	}
	for name, f := range wrong(h) {
		if v := panicked(f); v != api.ErrArg {
			t.Error(name, v)
		}
	}
}

func TestATransactionThatIsTooGreat(t *testing.T) {
	h, s, _ := fresh(t, 20368)
	for i := range 20 {
		must(t, s, func() { fill(s, h.Take(512), 512, uint64(i)+1) })
	}
	must(t, s, func() { h.Sweep(func(int) bool { return false }) })
	want := reading(s)
	e := s.Do(func() {
		for range 20 {
			h.Take(512)
		}
	})
	if e != api.ErrBig || !slices.Equal(reading(s), want) {
		t.Error(e)
	}
	mustStand(t, h, nil)
}

// 8.2

func TestTakeOfEachSize(t *testing.T) {
	h, s, _ := fresh(t, 4096)
	for words := 1; words <= 512; words++ {
		free := h.Free()
		at := h.Take(words)
		if at <= 0 || at%8 != 0 || !noughts(s, at, words) || h.Size(at) != words || free-h.Free() != holds(words) {
			t.Fatal(words, at, h.Size(at), free-h.Free())
		}
		mustStand(t, h, map[int]int{at: words})
		fill(s, at, holds(words), math.MaxUint64)
		mustStand(t, h, map[int]int{at: words})
		h.Give(at)
		mustStand(t, h, nil)
	}
}

// wrong are calls whose arguments may not be, whatever stands.
func wrong(h *Heap) map[string]func() {
	m := map[string]func(){}
	for name, i := range map[string]int{"least": math.MinInt, "-513": -513, "-1": -1, "nought": 0, "513": 513, "1024": 1024, "wraps": 1<<32 + 8, "most": math.MaxInt} {
		m["Take "+name] = func() { h.Take(i) }
	}
	for name, i := range map[string]int{"least": math.MinInt, "-1": -1, "16": 16, "17": 17, "wraps": 1 << 32, "most": math.MaxInt} {
		m["Root "+name] = func() { h.Root(i) }
		m["SetRoot "+name] = func() { h.SetRoot(i, 1) }
	}
	for name, i := range map[string]int{"least": math.MinInt, "near least": math.MinInt + 8, "-8": -8, "nought": 0, "1": 1, "8": 8, "16": 16, "ahead": h.first - 8, "behind": h.first + h.All(), "size": h.s.Size(), "far": 1 << 40, "most": math.MaxInt - 7} {
		m["Give "+name] = func() { h.Give(i) }
		m["Size "+name] = func() { h.Size(i) }
	}
	return m
}

func TestWrongArguments(t *testing.T) {
	for _, size := range sizes {
		h, s, _ := fresh(t, size)
		pieces := map[int]int{}
		for _, words := range []int{512, 1, 100, 33} {
			pieces[h.Take(words)] = words
		}
		want := reading(s)
		for name, f := range wrong(h) {
			if v := panicked(f); v != api.ErrArg {
				t.Error(size, name, v)
			}
		}
		if !slices.Equal(reading(s), want) {
			t.Error(size, "a refused call changed words")
		}
		mustStand(t, h, pieces)
	}
}

// No place but the beginning of a piece that is taken is one that may be given.
func TestOnlyBeginningsAreGiven(t *testing.T) {
	h, s, _ := fresh(t, 1536)
	pieces := map[int]int{}
	for _, words := range []int{512, 5, 40, 100, 16, 8} {
		at := h.Take(words)
		pieces[at] = words
		fill(s, at, holds(words), uint64(words))
	}
	gone := h.Take(24)
	h.Give(gone)
	for at := -16; at < s.Size()+16; at++ {
		if _, there := pieces[at]; there {
			continue
		}
		if v, w := panicked(func() { h.Give(at) }), panicked(func() { h.Size(at) }); v != api.ErrArg || w != api.ErrArg {
			t.Fatal(at, v, w)
		}
	}
	mustStand(t, h, pieces)
	for at := range pieces {
		h.Give(at)
		if v := panicked(func() { h.Give(at) }); v != api.ErrArg {
			t.Error("given twice", at, v)
		}
	}
	mustStand(t, h, nil)
}

// A piece is all 0 whoever had its words, and as whatever pieces, within one transaction and behind a Commit.
func TestPiecesAreNoughtAgain(t *testing.T) {
	for _, commit := range []bool{false, true} {
		h, s, _ := fresh(t, 1536)
		for _, c := range [][2]int{{512, 512}, {512, 8}, {8, 512}, {64, 9}, {1, 64}, {100, 300}} {
			for {
				v := panicked(func() { fill(s, h.Take(c[0]), holds(c[0]), 7) })
				if v == api.ErrFull {
					break
				}
				if v != nil {
					t.Fatal(v)
				}
			}
			h.Sweep(func(int) bool { return false })
			if commit {
				s.Commit()
			}
			for panicked(func() { h.Take(c[1]) }) == nil {
			}
			for _, at := range h.Pieces() {
				if !noughts(s, at, c[1]) {
					t.Fatal(commit, c, at)
				}
			}
			h.Sweep(func(int) bool { return false })
		}
	}
}

func TestAFullHeapIsNotChanged(t *testing.T) {
	h, s, _ := fresh(t, 1536)
	for _, words := range []int{512, 64, 8} {
		pieces := asked(takeAll(t, h, s, words), words)
		want := reading(s)
		for w := words; w <= 512; w += 7 {
			if v := panicked(func() { h.Take(w) }); v != api.ErrFull || s.Pending() != 0 {
				t.Error(words, w, v, s.Pending())
			}
		}
		if v := panicked(func() { h.Take(513) }); v != api.ErrArg {
			t.Error(v)
		}
		if !slices.Equal(reading(s), want) {
			t.Error(words, "a refused Take changed words")
		}
		mustStand(t, h, pieces)
		must(t, s, func() { h.Sweep(func(int) bool { return false }) })
	}
}

func TestRoots(t *testing.T) {
	h, s, d := fresh(t, 1024)
	var l []int
	for panicked(func() { l = append(l, h.Take(8)) }) == nil {
	}
	for _, at := range l {
		fill(s, at, 8, math.MaxUint64)
	}
	s.Commit()
	for i := range 16 {
		if h.Root(i) != 0 {
			t.Error("a piece has a root", i)
		}
		h.SetRoot(i, math.MaxUint64-uint64(i))
	}
	mustStand(t, h, asked(l, 8))
	s.Commit()
	h = opened(t, store(t, d))
	for i := range 16 {
		if h.Root(i) != math.MaxUint64-uint64(i) {
			t.Error(i, h.Root(i))
		}
	}
	h.SetRoot(15, 0)
	if h.Root(15) != 0 || h.Root(14) != math.MaxUint64-14 {
		t.Error(h.Root(15), h.Root(14))
	}
	for _, at := range l {
		if h.s.Load(at) != math.MaxUint64 {
			t.Fatal("a root is a piece's word", at)
		}
	}
	h.s.Abort()
	if h.Root(15) != math.MaxUint64-15 {
		t.Error(h.Root(15))
	}
}

func TestPiecesAreNewMemory(t *testing.T) {
	h, _, _ := fresh(t, 1024)
	if l := h.Pieces(); len(l) != 0 {
		t.Error(l)
	}
	a, b := h.Take(1), h.Take(1)
	l := h.Pieces()
	l[0] = 1
	_ = append(l[:1], 2)
	mustStand(t, h, map[int]int{a: 1, b: 1})
}

func TestSweep(t *testing.T) {
	h, s, _ := fresh(t, 4096)
	if n := h.Sweep(func(int) bool { t.Error("asked of none"); return false }); n != 0 {
		t.Error(n)
	}
	pieces := map[int]int{}
	for i := range 12 {
		words := i*37%512 + 1
		pieces[h.Take(words)] = words
	}
	s.Commit()
	places := h.Pieces()
	for name, keep := range map[string]func(at int) bool{
		"all":   func(int) bool { return true },
		"none":  func(int) bool { return false },
		"first": func(at int) bool { return at == places[0] },
		"last":  func(at int) bool { return at == places[11] },
		"some":  func(at int) bool { return slices.Index(places, at)%3 == 1 },
		"large": func(at int) bool { return h.Size(at) > 200 && h.Free() > 0 },
	} {
		left := map[int]int{}
		for at, words := range pieces {
			if keep(at) {
				left[at] = words
			}
		}
		var of []int
		n := h.Sweep(func(at int) bool { of = append(of, at); return keep(at) })
		if n != 12-len(left) || !slices.Equal(of, places) {
			t.Error(name, n, of)
		}
		mustStand(t, h, left)
		s.Abort()
	}
	if n := h.Sweep(nil); n != 0 || s.Pending() != 0 {
		t.Error("nil", n)
	}
	mustStand(t, h, pieces)
}

func TestSweepWhoseKeepPanics(t *testing.T) {
	h, s, _ := fresh(t, 4096)
	pieces := map[int]int{}
	must(t, s, func() {
		for range 5 {
			pieces[h.Take(100)] = 100
		}
	})
	places := h.Pieces()
	for _, x := range []any{"x", api.ErrForm} {
		v := panicked(func() {
			e := s.Do(func() {
				h.Sweep(func(at int) bool {
					if at == places[3] {
						panic(x)
					}
					return false
				})
			})
			if e != api.OK {
				panic(e)
			}
		})
		if v != x {
			t.Error(x, v)
		}
		mustStand(t, h, pieces)
	}
}

// All that a heap may have is swept within one transaction: what takes away is always done.
func TestTheGreatestSweep(t *testing.T) {
	h, s, d := fresh(t, 53136)
	n := 0
	for s.Do(func() {
		for range 200 {
			if h.Free() == 0 {
				break
			}
			h.Take(1)
			n++
		}
	}) == api.OK && h.Free() > 0 {
	}
	if n != h.All()/8 || len(h.Pieces()) != n {
		t.Fatal(n, h.All())
	}
	if e := s.Do(func() {
		if h.Sweep(func(int) bool { return false }) != n {
			t.Error("not all")
		}
	}); e != api.OK {
		t.Fatal(e)
	}
	mustStand(t, opened(t, store(t, d)), nil)
}

// own are the words of a heap that say what is taken and what is free.
func own(h *Heap) []int {
	l := []int{markAt, freeAt}
	for i := bitsAt; i < h.ask+(h.units+3)/4; i++ {
		l = append(l, i)
	}
	return l
}

// Whatever single bit of a heap's own words is another one is seen.
func TestCheckSeesEachBit(t *testing.T) {
	for _, size := range []int{1024, 1080} {
		h, s, _ := fresh(t, size)
		for _, words := range []int{8, 256, 17, 9, 64, 3} {
			h.Take(words)
		}
		h.Give(h.Pieces()[2])
		s.Commit()
		for _, i := range own(h) {
			w := s.Load(i)
			for b := range 64 {
				x := w ^ 1<<b
				// How many words were asked for may be another number, if the piece holds as many.
				if i >= h.ask && sameHold(w, x) {
					continue
				}
				s.Put(i, x)
				if h.Check() != api.ErrForm {
					t.Error(size, i, b, w)
				}
			}
			s.Put(i, w)
		}
		if h.Check() != api.OK {
			t.Error(size, h.Check())
		}
	}
}

// sameHold tells whether two words tell of pieces of the same lengths.
func sameHold(a, b uint64) bool {
	for k := range 4 {
		x, y := int(a>>(16*k)&0xffff), int(b>>(16*k)&0xffff)
		if (x == 0) != (y == 0) || x > 512 || y > 512 || holds(x) != holds(y) {
			return false
		}
	}
	return true
}

func TestCheckSeesWhatIsWrong(t *testing.T) {
	for name, hurt := range map[string]func(h *Heap, a, b int){
		"noughts":      func(h *Heap, a, b int) { fill(h.s, 0, h.first, 0) },
		"ones":         func(h *Heap, a, b int) { fill(h.s, 0, h.first, math.MaxUint64) },
		"no mark":      func(h *Heap, a, b int) { h.s.Put(markAt, 0) },
		"less Free":    func(h *Heap, a, b int) { h.s.Put(freeAt, h.s.Load(freeAt)-8) },
		"more Free":    func(h *Heap, a, b int) { h.s.Put(freeAt, h.s.Load(freeAt)+8) },
		"longer":       func(h *Heap, a, b int) { h.setAsked((a-h.first)/8, 512) },
		"shorter":      func(h *Heap, a, b int) { h.setAsked((a-h.first)/8, 8) },
		"too long":     func(h *Heap, a, b int) { h.setAsked((a-h.first)/8, 513) },
		"within":       func(h *Heap, a, b int) { h.setAsked((a-h.first)/8+1, 8) },
		"uneven":       func(h *Heap, a, b int) { h.setAsked((b-h.first)/8+1, 16) },
		"behind all":   func(h *Heap, a, b int) { h.setAsked(h.units, 8) },
		"none":         func(h *Heap, a, b int) { h.setAsked((a-h.first)/8, 0) },
		"taken, free":  func(h *Heap, a, b int) { h.setFree(0, (b-h.first)/8, true) },
		"twice free":   func(h *Heap, a, b int) { h.setFree(5, 1, true); h.setFree(4, 2, true) },
		"lost":         func(h *Heap, a, b int) { h.setFree(5, 1, false) },
		"unjoined":     func(h *Heap, a, b int) { h.setFree(5, 1, false); h.setFree(4, 2, true); h.setFree(4, 3, true) },
		"free, none":   func(h *Heap, a, b int) { h.setFree(6, h.units>>6, true) },
		"Free is left": func(h *Heap, a, b int) { h.setFree(5, 1, false); h.s.Put(freeAt, h.s.Load(freeAt)-256) },
	} {
		h, _, _ := fresh(t, 1104)
		a, b := h.Take(40), h.Take(17)
		if h.units != 130 || a != h.first || b != a+64 {
			t.Fatal(h.units, a, b)
		}
		mustStand(t, h, map[int]int{a: 40, b: 17})
		hurt(h, a, b)
		if e := h.Check(); e != api.ErrForm {
			t.Error(name, e)
		}
	}
}

// 8.3

func TestAllOfOneSize(t *testing.T) {
	for _, size := range []int{1024, 1080, 4096, 20368} {
		h, s, d := fresh(t, size)
		for _, words := range []int{1, 8, 9, 16, 17, 32, 33, 64, 65, 128, 129, 200, 256, 257, 511, 512} {
			l := takeAll(t, h, s, words)
			mustStand(t, h, asked(l, words))
			free := h.Free()
			if free >= holds(words) || words <= 64 && 4*free >= h.All() || 4*(free-512) >= h.All() || free != h.All()-len(l)*holds(words) {
				t.Error(size, words, free)
			}
			r := rand.New(rand.NewSource(int64(words)))
			r.Shuffle(len(l), func(i, j int) { l[i], l[j] = l[j], l[i] })
			for len(l) > 0 {
				n := min(len(l), 500)
				must(t, s, func() {
					for _, at := range l[:n] {
						h.Give(at)
					}
				})
				l = l[n:]
			}
			mustStand(t, h, nil)
			h = opened(t, s)
		}
		mustStand(t, opened(t, store(t, d)), nil)
	}
}

// A heap that was full of small pieces of which only some are left gives great pieces where there are none, and no more.
func TestJoinedAroundWhatIsLeft(t *testing.T) {
	h, s, _ := fresh(t, 8192)
	l := takeAll(t, h, s, 8)
	slices.Sort(l)
	keep := map[int]int{l[0]: 8, l[100]: 8, l[500]: 8}
	must(t, s, func() {
		h.Sweep(func(at int) bool { return keep[at] == 8 })
	})
	mustStand(t, h, keep)
	great := takeAll(t, h, s, 512)
	if len(great) != h.All()/512-3 {
		t.Error(len(great), h.All())
	}
	for _, at := range great {
		keep[at] = 512
	}
	mustStand(t, h, keep)
}

// A small piece never breaks a longer block than it must.
func TestTheSmallestBlockIsHalved(t *testing.T) {
	h, s, _ := fresh(t, 8192)
	must(t, s, func() {
		for range 3 {
			h.Give(h.Take(100))
			h.Take(9)
			h.Take(300)
		}
	})
	great := len(takeAll(t, h, s, 512))
	if n := (h.Free() + great*512) / 512; great < n-1 {
		t.Error(great, n)
	}
	free := h.Free()
	small := takeAll(t, h, s, 8)
	if len(small) != free/8 || h.Free() != 0 {
		t.Error(len(small), free, h.Free())
	}
}

// A long run by lot against plain lists: what is taken is nobody else's.
func TestLongRuns(t *testing.T) {
	for seed := range int64(6) {
		r := rand.New(rand.NewSource(seed))
		h, s, d := fresh(t, []int{1024, 1080, 4096, 8200}[seed%4])
		pieces, lasting := map[int]int{}, map[int]int{}
		for range 1500 {
			switch k := r.Intn(100); {
			case k < 50:
				runTake(t, h, s, pieces, r)
			case k < 88:
				runGive(t, h, s, pieces, r)
			case k < 90:
				n := h.Sweep(func(at int) bool { return at%3 != 0 })
				before := len(pieces)
				maps.DeleteFunc(pieces, func(at, _ int) bool { return at%3 == 0 })
				if n != before-len(pieces) {
					t.Fatal("Sweep", n, before, len(pieces))
				}
			case k < 96:
				s.Commit()
				lasting = maps.Clone(pieces)
			case k < 98:
				s.Abort()
				pieces = maps.Clone(lasting)
			default:
				d.Power(false, nil)
				s = store(t, d)
				h = opened(t, s)
				pieces = maps.Clone(lasting)
			}
			mustStand(t, h, pieces)
		}
		for at, words := range pieces {
			mustBeOwn(t, s, at, words)
			h.Give(at)
		}
		mustStand(t, h, nil)
	}
}

// runTake takes a piece of a length by lot, and writes it full of its own place.
func runTake(t *testing.T, h *Heap, s *tx.Store, pieces map[int]int, r *rand.Rand) {
	t.Helper()
	words := 1 + r.Intn(1<<(1+r.Intn(9)))
	if s.Pending() > 4500 {
		return
	}
	v := panicked(func() {
		at := h.Take(words)
		if !noughts(s, at, words) || pieces[at] != 0 {
			t.Fatal("Take", at, words)
		}
		pieces[at] = words
		fill(s, at, holds(words), uint64(at))
	})
	if v != nil && (v != api.ErrFull || h.Free() >= h.All()) {
		t.Fatal("Take", words, v)
	}
}

// runGive gives one of the pieces back.
func runGive(t *testing.T, h *Heap, s *tx.Store, pieces map[int]int, r *rand.Rand) {
	t.Helper()
	if len(pieces) == 0 {
		return
	}
	l := slices.Sorted(maps.Keys(pieces))
	at := l[r.Intn(len(l))]
	mustBeOwn(t, s, at, pieces[at])
	h.Give(at)
	delete(pieces, at)
}

// mustBeOwn checks that nobody wrote to a piece but who took it.
func mustBeOwn(t *testing.T, s *tx.Store, at, words int) {
	t.Helper()
	for i := range holds(words) {
		if s.Load(at+i) != uint64(at) {
			t.Fatal("somebody else's", at, words, i, s.Load(at+i))
		}
	}
}

// 8.4

// keeps are the sets of words that a loss of power is tried with: all there are of few words; of many words none, all, each second one, and some by lot.
func keeps(waiting []int) [][]int {
	var sets [][]int
	if len(waiting) <= 4 {
		for m := range 1 << len(waiting) {
			sets = append(sets, chosen(waiting, func(k int) bool { return m>>k&1 == 1 }))
		}
		return sets
	}
	r := rand.New(rand.NewSource(int64(len(waiting))))
	sets = append(sets, nil, waiting)
	for i := range 2 {
		sets = append(sets, chosen(waiting, func(k int) bool { return k%2 == i }), chosen(waiting, func(int) bool { return r.Intn(2) == 0 }))
	}
	return sets
}

func chosen(l []int, in func(k int) bool) []int {
	var out []int
	for k, x := range l {
		if in(k) {
			out = append(out, x)
		}
	}
	return out
}

// The power goes at each step of one change after the other: what stands behind it is the heap with the change, or without it.
func TestALossAtEachStep(t *testing.T) {
	_, _, d := fresh(t, 1080)
	pieces := map[int]int{}
	nth := func(h *Heap, k int) int { return h.Pieces()[k] }
	for n, change := range []func(h *Heap, m map[int]int){
		func(h *Heap, m map[int]int) { m[h.Take(9)] = 9 },
		func(h *Heap, m map[int]int) {
			at := h.Take(70)
			m[at] = 70
			fill(h.s, at, 5, 7)
			m[h.Take(1)] = 1
			h.SetRoot(2, uint64(at))
		},
		func(h *Heap, m map[int]int) {
			at := nth(h, 0)
			h.Give(at)
			delete(m, at)
			m[h.Take(17)] = 17
		},
		func(h *Heap, m map[int]int) {
			last := nth(h, 2)
			h.Sweep(func(at int) bool { return at == last })
			maps.DeleteFunc(m, func(at, _ int) bool { return at != last })
		},
		func(h *Heap, m map[int]int) {
			was := nth(h, 0)
			m[h.Take(120)] = 120
			h.Give(was)
			delete(m, was)
		},
	} {
		d, pieces = lossesOf(t, n, d, pieces, change)
	}
}

// lossesOf lets the power go at each step of a change, and gives the device and the pieces behind it.
func lossesOf(t *testing.T, n int, d *nvm.Device, before map[int]int, change func(h *Heap, m map[int]int)) (*nvm.Device, map[int]int) {
	t.Helper()
	stood := map[bool]int{}
	for k := 0; ; k++ {
		c := d.Copy()
		s := store(t, c)
		h := opened(t, s)
		after := maps.Clone(before)
		c.Fuse(k)
		if e := s.Do(func() { change(h, after) }); e == api.OK {
			c.Fuse(-1)
			mustStand(t, h, after)
			if stood[false] == 0 || stood[true] == 0 {
				t.Error(n, "no step where it was not, or where it was done", stood)
			}
			return c, after
		}
		for _, l := range keeps(c.Waiting()) {
			back := c.Copy()
			back.Power(false, l)
			h := opened(t, store(t, back))
			done := !slices.Equal(h.Pieces(), slices.Sorted(maps.Keys(before)))
			stood[done]++
			if done {
				mustStand(t, h, after)
			} else {
				mustStand(t, h, before)
			}
		}
	}
}

// 8.5

// Whatever stands in a heap's own words, every call ends, and panics with what tx or the heap says alone.
func TestHurtHeaps(t *testing.T) {
	for seed := range int64(60) {
		r := rand.New(rand.NewSource(seed))
		h, s, _ := fresh(t, []int{1024, 1080, 4096}[seed%3])
		for range 5 {
			h.Take(1 + r.Intn(64))
		}
		for _, i := range own(h) {
			switch {
			case seed < 20:
				s.Put(i, r.Uint64())
			case seed < 40 && r.Intn(4) == 0:
				s.Put(i, s.Load(i)^1<<r.Intn(64))
			case seed >= 40:
				s.Put(i, math.MaxUint64<<r.Intn(64))
			}
		}
		s.Commit()
		again := opened(t, s)
		outside := hurtCalls(t, again, s, r)
		if outside {
			t.Error(seed, "a piece outside of the heap's words")
		}
	}
}

// Bits behind a level's last block are no free blocks, and what no Take asks for is no piece.
func TestWordsThatSayNothing(t *testing.T) {
	h, s, _ := fresh(t, 1104)
	a, b := h.Take(512), h.Take(512)
	last := h.Take(16)
	pieces := map[int]int{a: 512, b: 512, last: 16}
	mustStand(t, h, pieces)
	s.Commit()
	for k := range levels {
		h.setFree(k, h.units>>k, true)
	}
	want := reading(s)
	for _, words := range []int{8, 16, 64, 512} {
		if v := panicked(func() { h.Take(words) }); v != api.ErrFull || !slices.Equal(reading(s), want) {
			t.Error(words, v)
		}
	}
	h.Give(last)
	if !h.isFree(1, h.units>>1-1) {
		t.Error("joined with what is not there")
	}
	s.Abort()
	for _, c := range [][2]int{{0, 513}, {1, 9}, {2, 17}, {63, 512}, {128, 513}, {128, 17}, {129, 9}, {65, 65535}} {
		at := h.place(c[0])
		h.setAsked(c[0], c[1])
		if slices.Contains(h.Pieces(), at) {
			t.Error(c, "is told")
		}
		if v, w := panicked(func() { h.Give(at) }), panicked(func() { h.Size(at) }); v != api.ErrArg || w != api.ErrArg {
			t.Error(c, v, w)
		}
		s.Abort()
	}
	h.setAsked(0, 513)
	h.setAsked(64, 0)
	if h.Check() != api.ErrForm {
		t.Error("a piece that is too long")
	}
	s.Abort()
	mustStand(t, h, pieces)
}

// hurtCalls calls all there is, and tells whether a piece was given that is not of the heap's words.
func hurtCalls(t *testing.T, h *Heap, s *tx.Store, r *rand.Rand) (outside bool) {
	t.Helper()
	for range 60 {
		at := h.first + 8*r.Intn(h.units)
		for name, f := range map[string]func(){
			"Give": func() { h.Give(at) },
			"Size": func() { h.Size(at) },
			"Take": func() {
				at := h.Take(1 + r.Intn(512))
				outside = outside || at < h.first || at >= s.Size()
			},
			"rest": func() { h.Free(); h.All(); h.Pieces(); h.Check(); h.Root(1) },
			"each": func() {
				for _, at := range h.Pieces() {
					h.Size(at)
				}
			},
			"Sweep": func() { h.Sweep(func(at int) bool { return at%16 == 0 }) },
		} {
			if v := panicked(f); v != nil && v != api.ErrArg && v != api.ErrFull {
				t.Fatal(name, v)
			}
		}
	}
	return outside
}

func TestAllBelongsToTheStore(t *testing.T) {
	for size := 1024; size < 2200; size += 8 {
		h, s, _ := fresh(t, size)
		if h.first < bitsAt || h.first%8 != 0 || h.first+h.All() > s.Size() || s.Size()-h.first-h.All() > 8 {
			t.Error(size, h.first, h.All())
		}
		mustStand(t, h, nil)
	}
}

// Examples

func TestExamples(t *testing.T) {
	h, s, _ := fresh(t, 1024)
	must(t, s, func() {
		before := h.Free()
		at := h.Take(9)
		if at == 0 || h.Size(at) != 9 || before-h.Free() != 16 {
			t.Error(at, h.Size(at), before-h.Free())
		}
	})
}
