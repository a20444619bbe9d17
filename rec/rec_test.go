package rec

import (
	"bytes"
	"maps"
	"math"
	"math/rand"
	"slices"
	"testing"

	"reliquary/api"
	"reliquary/heap"
	"reliquary/nvm"
	"reliquary/tx"
)

// panicked is what f panics with; nil if it does not.
func panicked(f func()) (v any) {
	defer func() { v = recover() }()
	f()
	return nil
}

// device is one whose store has so many words.
func device(t *testing.T, size int) *nvm.Device {
	t.Helper()
	d, e := nvm.New(12400 + size)
	if e != api.OK {
		t.Fatal("New", size, e)
	}
	return d
}

// opened is the store of a device, and its heap.
func opened(t *testing.T, d *nvm.Device) (*tx.Store, *heap.Heap) {
	t.Helper()
	s, e := tx.Open(d)
	if e != api.OK {
		t.Fatal("tx.Open", e)
	}
	h, e := heap.Open(s)
	if e != api.OK {
		t.Fatal("heap.Open", e)
	}
	return s, h
}

// fresh is a store of so many words and its heap, which is empty.
func fresh(t *testing.T, size int) (*tx.Store, *heap.Heap) {
	t.Helper()
	return opened(t, device(t, size))
}

// counted is n bytes from one on, no two neighbours alike and none of them 0.
func counted(n, from int) []byte {
	b := make([]byte, n)
	for i := range b {
		b[i] = byte(1 + (from+i)%255)
	}
	return b
}

func reading(s *tx.Store) []uint64 {
	l := make([]uint64, s.Size())
	for i := range l {
		l[i] = s.Load(i)
	}
	return l
}

// record is what a record is to tell.
type record struct {
	b    []byte
	held int
}

// mustTell checks all that is told of one record.
func mustTell(t *testing.T, s *tx.Store, h *heap.Heap, at int, r record) {
	t.Helper()
	if b := Read(s, h, at); !bytes.Equal(b, r.b) {
		t.Fatalf("Read(%d): %.40x of %d bytes, want %.40x of %d", at, b, len(b), r.b, len(r.b))
	}
	if Len(s, at) != len(r.b) || Held(s, at) != r.held {
		t.Fatal(at, "Len", Len(s, at), len(r.b), "Held", Held(s, at), r.held)
	}
}

// mustStand checks that the records, by their places, tell what they are to tell, and that the heap's pieces are theirs, each once, and nothing else is taken.
func mustStand(t *testing.T, s *tx.Store, h *heap.Heap, records map[int]record) {
	t.Helper()
	var all []int
	for at, r := range records {
		mustTell(t, s, h, at, r)
		l := Pieces(s, h, at)
		if l[0] != at {
			t.Fatal("Pieces", at, l)
		}
		for _, p := range l {
			if h.Size(p) > 64 {
				t.Fatal("a piece of", h.Size(p), "words")
			}
		}
		all = append(all, l...)
	}
	slices.Sort(all)
	if !slices.Equal(all, h.Pieces()) || h.Check() != api.OK {
		t.Fatal("Pieces", all, h.Pieces(), "Check", h.Check())
	}
	if len(records) == 0 && h.Free() != h.All() {
		t.Fatal("Free", h.Free(), h.All())
	}
}

// call is one of the calls that are given a place.
type call struct {
	name string
	f    func()
}

// onPlace are all calls that are given a place.
func onPlace(s *tx.Store, h *heap.Heap, at int) []call {
	return []call{
		{"Read", func() { Read(s, h, at) }},
		{"Len", func() { Len(s, at) }},
		{"Hold", func() { Hold(s, at) }},
		{"Pieces", func() { Pieces(s, h, at) }},
		{"Drop", func() { Drop(s, h, at) }},
		{"Held", func() { Held(s, at) }},
		{"Drop", func() { Drop(s, h, at) }},
	}
}

// byHeap are the calls that are given the heap, too.
var byHeap = []string{"Read", "Drop", "Pieces"}

// mustRefuse checks that calls on a place panic with ErrForm, and change nothing; all calls, if none is named.
func mustRefuse(t *testing.T, s *tx.Store, h *heap.Heap, at int, names ...string) {
	t.Helper()
	want, pending := reading(s), s.Pending()
	for _, c := range onPlace(s, h, at) {
		if len(names) > 0 && !slices.Contains(names, c.name) {
			continue
		}
		if v := panicked(c.f); v != api.ErrForm {
			t.Error(c.name, at, v)
		}
	}
	if s.Pending() != pending || !slices.Equal(reading(s), want) {
		t.Error(at, "a refused call changed words")
	}
}

// 10.1

func TestRecordsOfEachLength(t *testing.T) {
	s, h := fresh(t, 4096)
	for n := range api.MaxRecord + 1 {
		b := counted(n, n)
		at := Make(s, h, b)
		mustStand(t, s, h, map[int]record{at: {b, 1}})
		if !Drop(s, h, at) {
			t.Fatal("not gone", n)
		}
		if n%100 == 0 {
			mustStand(t, s, h, nil)
			s.Commit()
		}
	}
	mustStand(t, s, h, nil)
}

// Words that were nought stay nought, and bytes of all kinds stay what they are.
func TestBytesOfAllKinds(t *testing.T) {
	s, h := fresh(t, 4096)
	r := rand.New(rand.NewSource(10))
	records := map[int]record{}
	for _, n := range []int{1, 7, 8, 9, 48, 240, 241, 488, 489, 1000, 1001, 4096} {
		for _, fill := range []func() byte{
			func() byte { return 0 },
			func() byte { return 255 },
			func() byte { return byte(r.Intn(256)) },
		} {
			b := make([]byte, n)
			for i := range b {
				b[i] = fill()
			}
			if h.Free() < 700 {
				for at := range records {
					Drop(s, h, at)
				}
				clear(records)
				s.Commit()
			}
			records[Make(s, h, b)] = record{b, 1}
			mustStand(t, s, h, records)
		}
	}
}

func TestEmptyRecords(t *testing.T) {
	s, h := fresh(t, 1024)
	a, b := Make(s, h, nil), Make(s, h, []byte{})
	mustStand(t, s, h, map[int]record{a: {nil, 1}, b: {nil, 1}})
	if a == b || a == 0 || b == 0 {
		t.Error(a, b)
	}
}

// A record takes few words more than its bytes do, in pieces that are all equally long.
func TestRoomOfRecords(t *testing.T) {
	s, h := fresh(t, 4096)
	for n, want := range map[int]int{0: 32, 1: 32, 240: 32, 241: 64, 488: 64, 489: 96, 1024: 160, 4096: 544} {
		free := h.Free()
		at := Make(s, h, make([]byte, n))
		if free-h.Free() != want {
			t.Error(n, free-h.Free(), want)
		}
		for _, p := range Pieces(s, h, at) {
			if h.Size(p) != 32 {
				t.Error(n, h.Size(p))
			}
		}
		Drop(s, h, at)
	}
}

func TestTooBig(t *testing.T) {
	d := device(t, 4096)
	s, h := opened(t, d)
	for _, n := range []int{4097, 4098, 8192, 65536, 65537, 1 << 20} {
		if v := panicked(func() { Make(s, h, make([]byte, n)) }); v != api.ErrBig || s.Pending() != 0 {
			t.Error(n, v, s.Pending())
		}
		if e := s.Do(func() { Make(s, h, make([]byte, n)) }); e != api.ErrBig {
			t.Error(n, e)
		}
	}
	mustStand(t, s, h, nil)
	// What is wrong with the arguments comes ahead of a heap that is full.
	for s.Do(func() { Make(s, h, nil) }) == api.OK {
	}
	if v := panicked(func() { Make(s, h, make([]byte, 4097)) }); v != api.ErrBig {
		t.Error(v)
	}
}

func TestHoldAndDrop(t *testing.T) {
	s, h := fresh(t, 4096)
	for _, n := range []int{0, 5, 240, 241, 2000, 4096} {
		b := counted(n, 3)
		at, other := Make(s, h, b), Make(s, h, b)
		for k := 1; k <= 300; k++ {
			if Held(s, at) != k {
				t.Fatal(n, k, Held(s, at))
			}
			Hold(s, at)
		}
		mustStand(t, s, h, map[int]record{at: {b, 301}, other: {b, 1}})
		for k := 300; k >= 1; k-- {
			if Drop(s, h, at) || Held(s, at) != k {
				t.Fatal(n, k, Held(s, at))
			}
		}
		mustStand(t, s, h, map[int]record{at: {b, 1}, other: {b, 1}})
		if !Drop(s, h, at) {
			t.Error(n, "not gone")
		}
		mustStand(t, s, h, map[int]record{other: {b, 1}})
		mustRefuse(t, s, h, at)
		if !Drop(s, h, other) {
			t.Error(n, "not gone")
		}
		mustStand(t, s, h, nil)
		s.Commit()
	}
}

// A record may be held more often than 16 or 32 bits tell.
func TestHeldVeryOften(t *testing.T) {
	s, h := fresh(t, 1024)
	at := Make(s, h, []byte("often"))
	for _, n := range []int{1<<16 - 1, 1<<31 - 2, 1<<32 - 1} {
		s.Put(at+heldAt, uint64(n))
		Hold(s, at)
		mustTell(t, s, h, at, record{[]byte("often"), n + 1})
		if Drop(s, h, at) || Held(s, at) != n {
			t.Error(n, Held(s, at))
		}
	}
}

// The places of the heap's own words, of free words, of others' pieces, of further pieces, and such as are none.
func TestNoRecordStands(t *testing.T) {
	s, h := fresh(t, 2048)
	great, small := Make(s, h, counted(3000, 0)), Make(s, h, []byte("small"))
	piece := h.Take(64)
	for i := range 64 {
		s.Put(piece+i, math.MaxUint64>>i)
	}
	blank := h.Take(64)
	gone := Make(s, h, counted(1000, 0))
	Drop(s, h, gone)
	s.Commit()
	places := []int{
		math.MinInt, math.MinInt + 8, -1 << 40, -8, -5, -1, piece, blank, gone,
		s.Size(), s.Size() + 8, 1 << 16, 1 << 32, 1<<32 + small, 1 << 40, math.MaxInt - 7, math.MaxInt,
	}
	for i := range s.Size() {
		if i != great && i != small {
			places = append(places, i)
		}
	}
	want := reading(s)
	for _, at := range places {
		for _, c := range onPlace(s, h, at) {
			if v := panicked(c.f); v != api.ErrForm || s.Pending() != 0 {
				t.Fatal(c.name, at, v, s.Pending())
			}
		}
	}
	if !slices.Equal(reading(s), want) {
		t.Error("a refused call changed words")
	}
	mustTell(t, s, h, great, record{counted(3000, 0), 1})
	mustTell(t, s, h, small, record{[]byte("small"), 1})
}

// What is gone is seen to be gone, within its transaction and behind it, and however its pieces went.
func TestGoneRecords(t *testing.T) {
	d := device(t, 4096)
	s, h := opened(t, d)
	for _, n := range []int{0, 3, 241, 4096} {
		at := Make(s, h, counted(n, 0))
		s.Commit()
		Drop(s, h, at)
		mustRefuse(t, s, h, at)
		s.Abort()
		mustStand(t, s, h, map[int]record{at: {counted(n, 0), 1}})
		Drop(s, h, at)
		s.Commit()
		mustRefuse(t, s, h, at)
		s, h = opened(t, d)
		mustRefuse(t, s, h, at)

		at = Make(s, h, counted(n, 0))
		s.Commit()
		h.Sweep(func(int) bool { return false })
		mustRefuse(t, s, h, at, byHeap...)
		for panicked(func() { h.Take(1) }) == nil {
		}
		mustRefuse(t, s, h, at)
		s.Abort()
		if l := Pieces(s, h, at); len(l) > 1 {
			h.Give(l[len(l)-1])
			mustRefuse(t, s, h, at, byHeap...)
			s.Abort()
		}
		Drop(s, h, at)
		mustStand(t, s, h, nil)
		s.Commit()
	}
}

// A Make of which there is not all room has taken nothing, whether it is aborted or not.
func TestFull(t *testing.T) {
	for _, n := range []int{0, 100, 1000, 2500, 4096} {
		for _, within := range []bool{true, false} {
			s, h := fresh(t, 3000)
			records := map[int]record{}
			made := 0
			mk := func() {
				b := counted(n, made)
				records[Make(s, h, b)] = record{b, 1}
				made++
			}
			var v any = api.OK
			for v == api.OK {
				if within {
					v = s.Do(mk)
					continue
				}
				if v = panicked(mk); v == nil {
					v = api.OK
					s.Commit()
				}
			}
			if v != api.ErrFull || made != len(records) || made < 4 {
				t.Fatal(n, within, v, made)
			}
			mustStand(t, s, h, records)
			free := h.Free()
			if v := panicked(mk); v != api.ErrFull || h.Free() != free {
				t.Error(n, within, v, h.Free(), free)
			}
			mustStand(t, s, h, records)
			for at := range records {
				Drop(s, h, at)
			}
			mustStand(t, s, h, nil)
		}
	}
}

// What there is room for is made, though a greater one was refused within the same transaction.
func TestSmallerBehindFull(t *testing.T) {
	s, h := fresh(t, 1024)
	e := s.Do(func() {
		b := counted(4096, 0)
		at := Make(s, h, b)
		if v := panicked(func() { Make(s, h, b) }); v != api.ErrFull {
			t.Fatal(v)
		}
		c := counted(1500, 1)
		mustStand(t, s, h, map[int]record{at: {b, 1}, Make(s, h, c): {c, 1}})
	})
	if e != api.OK {
		t.Error(e)
	}
}

func TestATransactionThatIsTooGreat(t *testing.T) {
	s, h := fresh(t, 20368)
	at := Make(s, h, counted(4000, 0))
	s.Commit()
	want := reading(s)
	e := s.Do(func() {
		for i := range 20 {
			Make(s, h, counted(4096, i))
		}
	})
	if e != api.ErrBig || !slices.Equal(reading(s), want) {
		t.Error(e)
	}
	mustStand(t, s, h, map[int]record{at: {counted(4000, 0), 1}})
}

// However little room a transaction has left, a Make is done in it, or its error told.
func TestATransactionThatIsNearlyTooGreat(t *testing.T) {
	s, h := fresh(t, 20368)
	b := counted(1000, 0)
	told := map[any]int{}
	for left := range 150 {
		for i := range api.MaxWrites - left {
			s.Put(s.Size()/2+i, 1)
		}
		var at int
		v := panicked(func() { at = Make(s, h, b) })
		told[v]++
		if v == nil {
			mustStand(t, s, h, map[int]record{at: {b, 1}})
		}
		s.Abort()
		mustStand(t, s, h, nil)
	}
	if told[nil] == 0 || told[api.ErrBig] < 100 || len(told) != 2 {
		t.Error(told)
	}
}

func TestDead(t *testing.T) {
	d := device(t, 4096)
	s, h := opened(t, d)
	at := Make(s, h, counted(1000, 0))
	s.Commit()
	d.Fuse(0)
	panicked(d.Fence)
	for _, c := range append(onPlace(s, h, at), call{"Make", func() { Make(s, h, []byte("x")) }}) {
		if v := panicked(c.f); v != (nvm.Lost{}) {
			t.Error(c.name, v)
		}
	}
	if v := panicked(func() { Make(s, h, make([]byte, 4097)) }); v != api.ErrBig {
		t.Error(v)
	}
	if e := s.Do(func() { Read(s, h, at) }); e != api.ErrDead {
		t.Error(e)
	}
	d.Power(false, nil)
	s, h = opened(t, d)
	mustStand(t, s, h, map[int]record{at: {counted(1000, 0), 1}})
}

// What is handed in is neither changed nor kept, its spare room neither; what is told is new memory.
func TestMemoryOfItsOwn(t *testing.T) {
	s, h := fresh(t, 4096)
	for _, n := range []int{1, 8, 13, 240, 1000, 4095} {
		want := counted(n, 9)
		b := append(counted(n, 9), "spare room"...)[:n]
		at := Make(s, h, b)
		if !bytes.Equal(b, want) || string(b[n:n+10]) != "spare room" {
			t.Fatal(n, "what was handed in is changed")
		}
		clear(b[:cap(b)])
		told := Read(s, h, at)
		clear(told[:cap(told)])
		l := Pieces(s, h, at)
		clear(l[:cap(l)])
		mustStand(t, s, h, map[int]record{at: {want, 1}})
		Drop(s, h, at)
	}
}

// 10.2

// A long run by lot against a plain list of records: what is read is what was made, and nothing is taken beside it (W3).
func TestLongRuns(t *testing.T) {
	for seed := range int64(6) {
		r := rand.New(rand.NewSource(seed))
		d := device(t, []int{1024, 2000, 4096, 8200}[seed%4])
		s, h := opened(t, d)
		now, lasting := map[int]record{}, map[int]record{}
		for range 1200 {
			switch k := r.Intn(100); {
			case k < 45:
				runMake(t, s, h, now, r)
			case k < 60:
				runHold(s, now, r)
			case k < 88:
				runDrop(t, s, h, now, r)
			case k < 94:
				s.Commit()
				lasting = maps.Clone(now)
			case k < 97:
				s.Abort()
				now = maps.Clone(lasting)
			default:
				d.Power(false, nil)
				s, h = opened(t, d)
				now = maps.Clone(lasting)
			}
			mustStand(t, s, h, now)
		}
		for at, x := range now {
			for range x.held {
				Drop(s, h, at)
			}
		}
		mustStand(t, s, h, nil)
	}
}

func runMake(t *testing.T, s *tx.Store, h *heap.Heap, now map[int]record, r *rand.Rand) {
	t.Helper()
	b := counted(r.Intn(1<<(1+r.Intn(12))), r.Intn(255))
	if s.Pending() > 5000 {
		return
	}
	v := panicked(func() {
		at := Make(s, h, b)
		if now[at].held > 0 {
			t.Fatal("made where one stands", at)
		}
		now[at] = record{b, 1}
	})
	if v != nil && v != api.ErrFull {
		t.Fatal("Make", v)
	}
}

// oneOf is one of the places by lot; 0, if there is none.
func oneOf(now map[int]record, r *rand.Rand) int {
	l := slices.Sorted(maps.Keys(now))
	if len(l) == 0 {
		return 0
	}
	return l[r.Intn(len(l))]
}

func runHold(s *tx.Store, now map[int]record, r *rand.Rand) {
	if at := oneOf(now, r); at > 0 {
		Hold(s, at)
		now[at] = record{now[at].b, now[at].held + 1}
	}
}

func runDrop(t *testing.T, s *tx.Store, h *heap.Heap, now map[int]record, r *rand.Rand) {
	t.Helper()
	at := oneOf(now, r)
	if at == 0 {
		return
	}
	x := record{now[at].b, now[at].held - 1}
	if Drop(s, h, at) != (x.held == 0) {
		t.Fatal("Drop", at, x.held)
	}
	now[at] = x
	if x.held == 0 {
		delete(now, at)
	}
}

// The power goes at each step of one change after the other: what stands behind it are the records with the change, or without it.
func TestALossAtEachStep(t *testing.T) {
	d := device(t, 1080)
	opened(t, d)
	before := map[int]record{}
	for n, change := range []func(s *tx.Store, h *heap.Heap, m map[int]record){
		func(s *tx.Store, h *heap.Heap, m map[int]record) {
			m[Make(s, h, []byte("one"))] = record{[]byte("one"), 1}
		},
		func(s *tx.Store, h *heap.Heap, m map[int]record) {
			m[Make(s, h, counted(700, 0))] = record{counted(700, 0), 1}
		},
		func(s *tx.Store, h *heap.Heap, m map[int]record) {
			for at, x := range m {
				Hold(s, at)
				m[at] = record{x.b, x.held + 1}
			}
		},
		func(s *tx.Store, h *heap.Heap, m map[int]record) {
			for _, at := range slices.Sorted(maps.Keys(m)) {
				Drop(s, h, at)
				if len(m[at].b) == 3 {
					Drop(s, h, at)
					delete(m, at)
					continue
				}
				m[at] = record{m[at].b, 1}
			}
			m[Make(s, h, counted(60, 2))] = record{counted(60, 2), 1}
		},
		func(s *tx.Store, h *heap.Heap, m map[int]record) {
			for at := range m {
				Drop(s, h, at)
			}
			clear(m)
		},
	} {
		d, before = lossesOf(t, n, d, before, change)
	}
	s, h := opened(t, d)
	mustStand(t, s, h, nil)
}

// lossesOf lets the power go at each step of a change, and gives the device and the records behind it.
func lossesOf(t *testing.T, n int, d *nvm.Device, before map[int]record, change func(s *tx.Store, h *heap.Heap, m map[int]record)) (*nvm.Device, map[int]record) {
	t.Helper()
	stood := map[bool]int{}
	s, _ := opened(t, d)
	was := reading(s)
	for k := 0; ; k++ {
		c := d.Copy()
		s, h := opened(t, c)
		after := maps.Clone(before)
		c.Fuse(k)
		if e := s.Do(func() { change(s, h, after) }); e == api.OK {
			c.Fuse(-1)
			mustStand(t, s, h, after)
			if stood[false] == 0 || stood[true] == 0 {
				t.Error(n, "no step where it was not, or where it was done", stood)
			}
			return c, after
		}
		waiting := c.Waiting()
		for _, l := range [][]int{nil, waiting, waiting[:len(waiting)/2], waiting[len(waiting)/2:]} {
			back := c.Copy()
			back.Power(false, l)
			s, h := opened(t, back)
			done := !slices.Equal(reading(s), was)
			stood[done]++
			if done {
				mustStand(t, s, h, after)
			} else {
				mustStand(t, s, h, before)
			}
		}
	}
}

// 10.3

// hurt makes the word at a place of a record's piece another one.
func hurt(s *tx.Store, p part) {
	s.Put(p.at, p.word())
}

// Pieces that tell what no Make told: chains that meet themselves, that go astray, that are too long or too short.
func TestHurtChains(t *testing.T) {
	s, h := fresh(t, 4096)
	at, other := Make(s, h, counted(3000, 0)), Make(s, h, counted(3000, 7))
	small := Make(s, h, []byte("small"))
	piece := h.Take(64)
	s.Commit()
	l, o := parts(s, h, at), parts(s, h, other)
	last := len(l) - 1
	for name, f := range map[string]func(){
		"to itself":       func() { l[1].next = l[1].at; hurt(s, l[1]) },
		"to its own":      func() { l[2].next = at; hurt(s, l[2]) },
		"back":            func() { l[3].next = l[1].at; hurt(s, l[3]) },
		"past one":        func() { l[0].next = l[2].at; hurt(s, l[0]) },
		"to a first one":  func() { l[0].next = small; hurt(s, l[0]) },
		"to another's":    func() { l[1].next = o[3].at; hurt(s, l[1]) },
		"to nobody's":     func() { l[1].next = piece; hurt(s, l[1]) },
		"to the heap's":   func() { l[1].next = 8; hurt(s, l[1]) },
		"out of all":      func() { l[1].next = s.Size(); hurt(s, l[1]) },
		"to the far end":  func() { l[1].next = fieldMask * api.Line; hurt(s, l[1]) },
		"to the last":     func() { l[1].next = s.Size() - 8; hurt(s, l[1]) },
		"ends early":      func() { l[2].next = 0; hurt(s, l[2]) },
		"ends late":       func() { l[last].next = l[1].at; hurt(s, l[last]) },
		"no kind":         func() { l[2].kind = 0; hurt(s, l[2]) },
		"first's kind":    func() { l[2].kind = first; hurt(s, l[2]) },
		"more bytes":      func() { l[2].bytes++; hurt(s, l[2]) },
		"fewer bytes":     func() { l[2].bytes--; hurt(s, l[2]) },
		"last, more":      func() { l[last].bytes++; hurt(s, l[last]) },
		"last, fewer":     func() { l[last].bytes--; hurt(s, l[last]) },
		"all, more":       func() { l[0].bytes++; hurt(s, l[0]) },
		"all, fewer":      func() { l[0].bytes--; hurt(s, l[0]) },
		"a piece is gone": func() { h.Give(l[3].at) },
		"another's size":  func() { h.Give(l[3].at); h.Take(33) },
		"last is gone":    func() { h.Give(l[last].at) },
		"first is gone":   func() { h.Give(at) },
		"gone, held more": func() { Hold(s, at); h.Give(at) },
	} {
		f()
		mustRefuse(t, s, h, at, byHeap...)
		if t.Failed() {
			t.Fatal(name)
		}
		s.Abort()
		l = parts(s, h, at)
	}
	for name, f := range map[string]func(){
		"held by none":      func() { s.Put(at+heldAt, 0) },
		"held beyond ints":  func() { s.Put(at+heldAt, 1<<63) },
		"held by less":      func() { s.Put(at+heldAt, math.MaxUint64) },
		"no first one":      func() { l[0].kind = further; hurt(s, l[0]) },
		"nought":            func() { s.Put(at, 0) },
		"ones":              func() { s.Put(at, math.MaxUint64) },
		"too many bytes":    func() { l[0].bytes = 4097; hurt(s, l[0]) },
		"many too many":     func() { l[0].bytes = fieldMask; hurt(s, l[0]) },
		"no next":           func() { l[0].next = 0; hurt(s, l[0]) },
		"next behind a few": func() { l[0].bytes = 240; hurt(s, l[0]) },
	} {
		f()
		mustRefuse(t, s, h, at)
		if t.Failed() {
			t.Fatal(name)
		}
		s.Abort()
		l = parts(s, h, at)
	}
	mustTell(t, s, h, other, record{counted(3000, 7), 1})
	mustTell(t, s, h, small, record{[]byte("small"), 1})
}

// A piece of another length than the record's was not taken for it.
func TestPieceOfAnotherLength(t *testing.T) {
	s, h := fresh(t, 1024)
	for _, words := range []int{1, 2, 4, 8, 64, 512} {
		p := part{at: h.Take(words), kind: first, bytes: 8}
		hurt(s, p)
		s.Put(p.at+heldAt, 1)
		mustRefuse(t, s, h, p.at, byHeap...)
		s.Abort()
	}
}

// What fills a record's last word is nought: else no Make put it there.
func TestHurtFill(t *testing.T) {
	s, h := fresh(t, 4096)
	for _, n := range []int{1, 7, 15, 239, 241, 4095} {
		at := Make(s, h, counted(n, 0))
		l := parts(s, h, at)
		p := l[len(l)-1]
		i := p.at + p.size() - 1
		w := s.Load(i)
		for bit := 8 * ((n-1)%8 + 1); bit < 64; bit++ {
			s.Put(i, w|1<<bit)
			mustRefuse(t, s, h, at, "Read")
		}
		s.Abort()
	}
}

// Bytes that look like a record are none: they do not begin where pieces do, or nobody took a piece there.
func TestBytesThatLookLikeARecord(t *testing.T) {
	s, h := fresh(t, 1024)
	looks := part{kind: first, bytes: 8}.word()
	var b []byte
	for i := range 48 {
		for k := range 8 {
			b = append(b, byte([]uint64{looks, 1}[i%2]>>(8*k)))
		}
	}
	at := Make(s, h, b)
	s.Commit()
	for i := at + 1; i < at+50; i++ {
		if i%8 == 0 {
			mustRefuse(t, s, h, i, byHeap...)
			continue
		}
		mustRefuse(t, s, h, i)
	}
	mustStand(t, s, h, map[int]record{at: {b, 1}})
}

// A record that would reach beyond the store's end is none.
func TestRecordBeyondTheEnd(t *testing.T) {
	s, h := fresh(t, 1024)
	for _, n := range []int{49, 100, 240, 4096} {
		p := part{at: s.Size() - 8, kind: first, bytes: n}
		if p.behind() > 0 {
			p.next = 64
		}
		hurt(s, p)
		s.Put(p.at+heldAt, 1)
		mustRefuse(t, s, h, p.at)
		s.Abort()
	}
}

// Whatever stands in the words, every call ends, and panics with what its chapter says alone.
func TestHurtWords(t *testing.T) {
	s, h := fresh(t, 2048)
	r := rand.New(rand.NewSource(103))
	var heads, words []int
	for _, n := range []int{0, 30, 700, 1500, 4096} {
		at := Make(s, h, counted(n, n))
		heads = append(heads, at)
		for _, p := range parts(s, h, at) {
			words = append(words, p.at, p.at, p.at+1)
		}
	}
	s.Commit()
	for round := range 600 {
		for range 1 + r.Intn(4) {
			i := words[r.Intn(len(words))]
			switch r.Intn(4) {
			case 0:
				s.Put(i, s.Load(i)^1<<r.Intn(64))
			case 1:
				s.Put(i, s.Load(words[r.Intn(len(words))]))
			case 2:
				p := part{kind: []uint64{first, further}[r.Intn(2)], bytes: r.Intn(5000), next: words[r.Intn(len(words))]}
				s.Put(i, p.word())
			default:
				s.Put(r.Intn(18+s.Size()/20), r.Uint64())
			}
		}
		hurtCalls(t, s, h, append(heads, words[r.Intn(len(words))]), round)
		s.Abort()
	}
	for i, n := range []int{0, 30, 700, 1500, 4096} {
		mustTell(t, s, h, heads[i], record{counted(n, n), 1})
	}
}

// hurtCalls calls all there is at some places; what is refused has changed nothing.
func hurtCalls(t *testing.T, s *tx.Store, h *heap.Heap, places []int, round int) {
	t.Helper()
	for _, at := range places {
		for _, c := range onPlace(s, h, at) {
			want := reading(s)
			if v := panicked(c.f); v != nil && (v != api.ErrForm || !slices.Equal(reading(s), want)) {
				t.Fatal(round, c.name, at, v)
			}
		}
	}
	v := panicked(func() { Make(s, h, counted(600, 0)) })
	if v != nil && v != api.ErrFull {
		t.Fatal(round, "Make", v)
	}
}

// Examples

func TestExamples(t *testing.T) {
	s, h := fresh(t, 1024)
	e := s.Do(func() {
		at := Make(s, h, []byte("hi"))
		if at == 0 || Len(s, at) != 2 || Held(s, at) != 1 || !Drop(s, h, at) {
			t.Error(at)
		}
	})
	if e != api.OK {
		t.Error(e)
	}
}
