package tx

import (
	"errors"
	"math"
	"math/rand"
	"runtime"
	"slices"
	"testing"

	"reliquary/api"
	"reliquary/nvm"
)

// panicked is what f panics with; nil if it does not.
func panicked(f func()) (v any) {
	defer func() { v = recover() }()
	f()
	return nil
}

func device(t *testing.T, words int) *nvm.Device {
	t.Helper()
	d, e := nvm.New(words)
	if e != api.OK {
		t.Fatal("New", words, e)
	}
	return d
}

func opened(t *testing.T, d *nvm.Device) *Store {
	t.Helper()
	s, e := Open(d)
	if e != api.OK || s == nil {
		t.Fatal("Open", e)
	}
	return s
}

// fresh is an empty store of so many words, and its device.
func fresh(t *testing.T, size int) (*Store, *nvm.Device) {
	t.Helper()
	d := device(t, own+size)
	return opened(t, d), d
}

// die lets the power go.
func die(d *nvm.Device) {
	d.Fuse(0)
	panicked(d.Fence)
}

// word is one word and what it is put to.
type word struct {
	i int
	v uint64
}

func putAll(s *Store, w []word) {
	for _, x := range w {
		s.Put(x.i, x.v)
	}
}

func reading(s *Store) []uint64 {
	l := make([]uint64, s.Size())
	for i := range l {
		l[i] = s.Load(i)
	}
	return l
}

// lasting is what a store would be if the power went now, and nothing on its way were kept.
func lasting(t *testing.T, d *nvm.Device) []uint64 {
	t.Helper()
	c := d.Copy()
	c.Power(false, nil)
	return reading(opened(t, c))
}

// with is what a reading is when w is committed.
func with(l []uint64, w []word) []uint64 {
	l = slices.Clone(l)
	for _, x := range w {
		l[x.i] = x.v
	}
	return l
}

// mustBeLost checks that the store gives nothing and takes nothing, but still refuses words that are not there.
func mustBeLost(t *testing.T, s *Store) {
	t.Helper()
	for name, f := range map[string]func(){
		"Load":   func() { s.Load(1) },
		"Put":    func() { s.Put(1, 1) },
		"Commit": s.Commit,
	} {
		if v := panicked(f); v != (nvm.Lost{}) {
			t.Error(name, v)
		}
	}
	for _, i := range []int{-1, s.Size()} {
		if v, w := panicked(func() { s.Load(i) }), panicked(func() { s.Put(i, 1) }); v != api.ErrArg || w != api.ErrArg {
			t.Error(i, v, w)
		}
	}
}

// mustBeDead checks that every Do answers ErrDead, and calls nothing.
func mustBeDead(t *testing.T, s *Store) {
	t.Helper()
	for range 2 {
		if e := s.Do(func() { t.Error("called") }); e != api.ErrDead {
			t.Error(e)
		}
		if e := s.Do(nil); e != api.ErrDead {
			t.Error(e)
		}
	}
}

// 7.1

func TestRoom(t *testing.T) {
	for _, c := range [][2]int{
		{math.MinInt, 0}, {math.MinInt + 12399, 0}, {-12400, 0}, {-1, 0}, {0, 0}, {8, 0}, {12392, 0}, {12399, 0}, {12400, 0}, {12401, 0}, {12407, 0},
		{12408, 8}, {12409, 8}, {12415, 8}, {12416, 16}, {12423, 16}, {12424, 24}, {32768, 20368}, {65536, 53136},
		{1 << 40, 1<<40 - 12400}, {math.MaxInt, math.MaxInt - 12407},
	} {
		if n := Room(c[0]); n != c[1] {
			t.Error(c, n)
		}
	}
}

func TestOpenErrors(t *testing.T) {
	if s, e := Open(nil); s != nil || e != api.ErrArg {
		t.Error(s, e)
	}
	for _, words := range []int{8, 12304, 12392, 12400} {
		d := device(t, words)
		for _, dead := range []bool{false, true} {
			if dead {
				die(d)
			}
			if s, e := Open(d); s != nil || e != api.ErrArg {
				t.Error(words, dead, e)
			}
		}
	}
	for _, words := range []int{12408, 65536} {
		d := device(t, words)
		die(d)
		for range 2 {
			if s, e := Open(d); s != nil || e != api.ErrDead {
				t.Error(words, e)
			}
		}
		d.Power(false, nil)
		opened(t, d)
	}
}

func TestOpenedStoreIsAsCommitted(t *testing.T) {
	for _, words := range []int{12408, 12416, 32768, 65536} {
		d := device(t, words)
		s := opened(t, d)
		if s.Size() != Room(words) || s.Size() != words-12400 || s.Pending() != 0 {
			t.Error(words, s.Size(), s.Pending())
		}
		want := make([]uint64, s.Size())
		if !slices.Equal(reading(s), want) {
			t.Error(words, "is not empty")
		}
		for i := range want {
			want[i] = uint64(i)*3 + 1
		}
		for i, v := range want {
			if s.Pending() == api.MaxWrites {
				s.Commit()
			}
			s.Put(i, v)
		}
		s.Commit()
		s.Put(0, 99)
		if !slices.Equal(reading(opened(t, d)), want) || !slices.Equal(lasting(t, d), want) {
			t.Error(words, "is not as it was committed")
		}
	}
}

// An Open that finds nothing to bring home takes no step; one whose power goes all the same answers ErrDead.
func TestOpenWhileThePowerGoes(t *testing.T) {
	s, d := fresh(t, 24)
	d.Fuse(0)
	opened(t, d)
	d.Fuse(-1)
	putAll(s, []word{{0, 1}, {8, 2}, {23, 3}})
	d.Fuse(11)
	if v := panicked(s.Commit); v != (nvm.Lost{}) {
		t.Fatal(v)
	}
	d.Power(true, nil)
	k := 0
	for ; ; k++ {
		c := d.Copy()
		c.Fuse(k)
		s, e := Open(c)
		if e == api.OK {
			break
		}
		if s != nil || e != api.ErrDead || !c.Dead() {
			t.Error(k, e)
		}
	}
	if k < 5 {
		t.Error("nothing to bring home", k)
	}
}

// 7.2

func TestLoadTellsWhatWasPut(t *testing.T) {
	s, d := fresh(t, 16)
	for _, i := range []int{0, 7, 8, 15} {
		for _, v := range []uint64{5, 6, 0, math.MaxUint64} {
			s.Put(i, v)
			if s.Load(i) != v {
				t.Error(i, v, s.Load(i))
			}
		}
	}
	if s.Pending() != 4 || s.Load(1) != 0 || s.Load(9) != 0 {
		t.Error(s.Pending(), s.Load(1), s.Load(9))
	}
	if d.Steps() != 0 || !slices.Equal(reading(opened(t, d)), make([]uint64, 16)) {
		t.Error("a Put is seen ahead of its Commit", d.Steps())
	}
}

func TestWordsThatAreNotThere(t *testing.T) {
	s, d := fresh(t, 16)
	s.Put(3, 3)
	for _, i := range []int{math.MinInt, math.MinInt + 12400, -12400, -12399, -8, -1, 16, 17, 24, 12400, 12416, math.MaxInt - 12400, math.MaxInt} {
		if v := panicked(func() { s.Load(i) }); v != api.ErrArg {
			t.Error("Load", i, v)
		}
		if v := panicked(func() { s.Put(i, 1) }); v != api.ErrArg {
			t.Error("Put", i, v)
		}
	}
	if s.Pending() != 1 || s.Load(3) != 3 || d.Steps() != 0 {
		t.Error(s.Pending(), s.Load(3), d.Steps())
	}
	s.Commit()
	if !slices.Equal(reading(opened(t, d)), with(make([]uint64, 16), []word{{3, 3}})) {
		t.Error(reading(opened(t, d)))
	}
}

func TestTheMostWords(t *testing.T) {
	s, d := fresh(t, 6160)
	fill := func(v uint64) {
		for i := range api.MaxWrites {
			s.Put(6143-i, v+uint64(i))
			s.Put(6143, v)
		}
	}
	full := func(v uint64) {
		t.Helper()
		if s.Pending() != 6144 {
			t.Fatal(s.Pending())
		}
		for _, i := range []int{6144, 6159} {
			if p := panicked(func() { s.Put(i, 0) }); p != api.ErrBig {
				t.Error(i, p)
			}
			if p := panicked(func() { s.Put(i+16, 0) }); p != api.ErrArg {
				t.Error(i, p)
			}
		}
		s.Put(0, v+6143)
		if s.Pending() != 6144 || s.Load(6144) != 0 || s.Load(0) != v+6143 || s.Load(6143) != v {
			t.Error(s.Pending(), s.Load(6144), s.Load(0), s.Load(6143))
		}
	}
	fill(100)
	full(100)
	s.Abort()
	if s.Pending() != 0 || !slices.Equal(reading(s), make([]uint64, 6160)) {
		t.Error(s.Pending())
	}
	fill(200)
	full(200)
	s.Commit()
	want := make([]uint64, 6160)
	for i := range api.MaxWrites {
		want[6143-i] = 200 + uint64(i)
	}
	if s.Pending() != 0 || !slices.Equal(reading(s), want) || !slices.Equal(lasting(t, d), want) {
		t.Error(s.Pending())
	}
	fill(300)
	full(300)
}

func TestPendingCountsUnlikeWords(t *testing.T) {
	s, d := fresh(t, 16)
	for n, c := range []struct{ i, pending int }{{0, 1}, {0, 1}, {1, 2}, {0, 2}, {15, 3}, {1, 3}, {15, 3}, {8, 4}} {
		s.Put(c.i, uint64(n))
		if s.Pending() != c.pending {
			t.Error(c, s.Pending())
		}
	}
	s.Commit()
	if s.Pending() != 0 {
		t.Error(s.Pending())
	}
	s.Put(0, s.Load(0))
	if s.Pending() != 1 {
		t.Error("a word that is put as it stands counts too", s.Pending())
	}
	s.Abort()
	if s.Pending() != 0 {
		t.Error(s.Pending())
	}
	if got, want := lasting(t, d), with(make([]uint64, 16), []word{{0, 3}, {1, 5}, {15, 6}, {8, 7}}); !slices.Equal(got, want) {
		t.Error(got, want)
	}
}

func TestCommitLasts(t *testing.T) {
	s, d := fresh(t, 40)
	want := reading(s)
	for n, w := range [][]word{
		{{0, 1}}, {{39, 2}, {0, 2}}, {}, {{0, 3}, {0, 4}}, {{39, 0}}, {{8, math.MaxUint64}, {16, 0x7265646f << 32}, {24, 12400}}, {{8, 5}, {8, math.MaxUint64}},
	} {
		putAll(s, w)
		s.Commit()
		want = with(want, w)
		if !slices.Equal(reading(s), want) || !slices.Equal(lasting(t, d), want) || len(d.Waiting()) != 0 || s.Pending() != 0 {
			t.Error(n, reading(s), lasting(t, d), want)
		}
	}
	steps := d.Steps()
	s.Commit()
	if d.Steps() != steps {
		t.Error("a Commit of nothing takes steps")
	}
}

func TestAbortTakesAllBack(t *testing.T) {
	s, d := fresh(t, 16)
	putAll(s, []word{{0, 1}, {15, 2}})
	s.Commit()
	want, steps := reading(s), d.Steps()
	putAll(s, []word{{0, 7}, {1, 7}, {15, 7}})
	s.Abort()
	s.Abort()
	if !slices.Equal(reading(s), want) || d.Steps() != steps {
		t.Error(reading(s), d.Steps(), steps)
	}
	s.Put(2, 3)
	s.Commit()
	if got := lasting(t, d); !slices.Equal(got, with(want, []word{{2, 3}})) {
		t.Error("what was aborted was committed", got)
	}
}

func TestLostGoesOn(t *testing.T) {
	s, d := fresh(t, 16)
	s.Put(1, 5)
	die(d)
	mustBeLost(t, s)
	if s.Pending() != 1 {
		t.Error(s.Pending())
	}
	s.Abort()
	if s.Pending() != 0 {
		t.Error(s.Pending())
	}
	mustBeLost(t, s)
}

func TestRefusedPutsComeAheadOfLost(t *testing.T) {
	s, d := fresh(t, 6160)
	for i := range api.MaxWrites {
		s.Put(i, 1)
	}
	die(d)
	for i, want := range map[int]any{-1: api.ErrArg, 6160: api.ErrArg, 6144: api.ErrBig, 6143: nvm.Lost{}} {
		if v := panicked(func() { s.Put(i, 1) }); v != want {
			t.Error(i, v)
		}
	}
}

// A store whose Commit found the power gone is of no use, even when the power is back: what it would tell may be neither what was nor what is to be.
func TestACommitThatWasLost(t *testing.T) {
	w := []word{{0, 5}, {8, 6}, {15, 7}}
	for k := 0; ; k++ {
		s, d := fresh(t, 16)
		putAll(s, w)
		d.Fuse(k)
		v := panicked(s.Commit)
		if v == nil {
			break
		}
		if v != (nvm.Lost{}) {
			t.Fatal(k, v)
		}
		for _, back := range []bool{false, true} {
			if back {
				d.Power(k%2 == 0, nil)
			}
			mustBeLost(t, s)
			mustBeDead(t, s)
		}
		got := reading(opened(t, d))
		if none := make([]uint64, 16); !slices.Equal(got, none) && !slices.Equal(got, with(none, w)) {
			t.Error(k, got)
		}
	}
}

// 7.3

func TestDoCommits(t *testing.T) {
	s, d := fresh(t, 16)
	calls := 0
	e := s.Do(func() {
		calls++
		s.Put(0, 5)
		s.Put(15, s.Load(0)+1)
		if s.Pending() != 2 {
			t.Error(s.Pending())
		}
	})
	want := with(make([]uint64, 16), []word{{0, 5}, {15, 6}})
	if e != api.OK || calls != 1 || s.Pending() != 0 || !slices.Equal(reading(s), want) || !slices.Equal(lasting(t, d), want) {
		t.Error(e, calls, s.Pending(), reading(s))
	}
	s.Put(1, 7)
	if e := s.Do(nil); e != api.OK || s.Pending() != 0 || lasting(t, d)[1] != 7 {
		t.Error(e, s.Pending())
	}
	s.Put(2, 8)
	if e := s.Do(func() {}); e != api.OK || s.Pending() != 0 || lasting(t, d)[2] != 8 {
		t.Error("what was Put ahead of it", e, s.Pending())
	}
	steps := d.Steps()
	if e := s.Do(nil); e != api.OK || d.Steps() != steps {
		t.Error(e, d.Steps())
	}
	if e := s.Do(func() { s.Put(3, 9); s.Abort() }); e != api.OK || s.Load(3) != 0 {
		t.Error(e, s.Load(3))
	}
}

func TestDoOfAnErrno(t *testing.T) {
	s, d := fresh(t, 16)
	s.Do(func() { s.Put(0, 5) })
	want, steps := reading(s), d.Steps()
	for _, x := range []api.Errno{api.OK, api.ErrArg, api.ErrForm, api.ErrBig, api.ErrDead, api.ErrFull, api.ErrMany, -1, 999} {
		s.Put(2, 1)
		e := s.Do(func() {
			s.Put(0, 6)
			s.Put(1, 6)
			panic(x)
		})
		if e != x || s.Pending() != 0 || !slices.Equal(reading(s), want) || d.Steps() != steps {
			t.Error(x, e, s.Pending(), reading(s))
		}
	}
	if e := s.Do(func() { s.Put(3, 3); s.Load(16) }); e != api.ErrArg || s.Load(3) != 0 {
		t.Error(e)
	}
	if e := s.Do(func() { s.Put(3, 3); s.Put(-1, 3) }); e != api.ErrArg || s.Load(3) != 0 {
		t.Error(e)
	}
	if e := s.Do(func() { s.Put(1, 1) }); e != api.OK || !slices.Equal(lasting(t, d), with(want, []word{{1, 1}})) {
		t.Error(e, lasting(t, d))
	}
}

func TestDoOfTooManyWords(t *testing.T) {
	s, d := fresh(t, 6152)
	many := func(n int) func() {
		return func() {
			for i := range n {
				s.Put(i, uint64(n))
			}
		}
	}
	if e := s.Do(many(6144)); e != api.OK || lasting(t, d)[6143] != 6144 {
		t.Error(e)
	}
	want := reading(s)
	if e := s.Do(many(6145)); e != api.ErrBig || s.Pending() != 0 || !slices.Equal(reading(s), want) {
		t.Error(e, s.Pending())
	}
}

type number int

// wrapped is an error that stands around another one.
type wrapped struct{ inner error }

func (w wrapped) Error() string { return "wrapped" }
func (w wrapped) Unwrap() error { return w.inner }

func TestDoLetsOthersGoOn(t *testing.T) {
	s, d := fresh(t, 16)
	s.Do(func() { s.Put(0, 5) })
	want, steps := reading(s), d.Steps()
	full, lost := api.ErrFull, nvm.Lost{}
	for _, x := range []any{"x", "", 0, 60, number(60), false, 1.5, errors.New("e"), wrapped{full}, &full, &lost, nvm.Wrong{Word: 3}, struct{}{}} {
		v := panicked(func() {
			e := s.Do(func() {
				s.Put(0, 6)
				s.Put(1, 6)
				panic(x)
			})
			t.Error("came back", x, e)
		})
		if v != x || s.Pending() != 0 || !slices.Equal(reading(s), want) || d.Steps() != steps {
			t.Errorf("%#v: %#v %d", x, v, s.Pending())
		}
	}
	var null *Store
	for name, f := range map[string]func(){"nil": func() { panic(nil) }, "fault": func() { null.size = 1 }} {
		v := panicked(func() { s.Do(func() { s.Put(0, 6); f() }) })
		if _, is := v.(runtime.Error); !is || s.Pending() != 0 || s.Load(0) != 5 {
			t.Errorf("%s: %#v", name, v)
		}
	}
	if v := panicked(func() { s.Do(func() { d.Load(-1) }) }); v != (nvm.Wrong{Word: -1}) {
		t.Error(v)
	}
	if e := s.Do(func() { s.Put(1, 1) }); e != api.OK || !slices.Equal(lasting(t, d), with(want, []word{{1, 1}})) {
		t.Error(e, lasting(t, d))
	}
}

func TestDoOfALostPower(t *testing.T) {
	for name, act := range map[string]func(s *Store, d *nvm.Device){
		"Load":      func(s *Store, d *nvm.Device) { die(d); s.Load(0) },
		"Put":       func(s *Store, d *nvm.Device) { die(d); s.Put(0, 1) },
		"Commit":    func(s *Store, d *nvm.Device) { die(d); s.Commit() },
		"the end":   func(s *Store, d *nvm.Device) { die(d) },
		"in Commit": func(s *Store, d *nvm.Device) { d.Fuse(3) },
		"a panic":   func(s *Store, d *nvm.Device) { panic(nvm.Lost{}) },
		"another":   func(s *Store, d *nvm.Device) { s.Do(func() { die(d); s.Load(0) }); d.Power(false, nil) },
		"caught":    func(s *Store, d *nvm.Device) { die(d); panicked(func() { s.Load(0) }) },
	} {
		s, d := fresh(t, 16)
		s.Do(func() { s.Put(2, 5) })
		want := reading(s)
		if e := s.Do(func() { s.Put(1, 1); act(s, d); s.Put(2, 2) }); e != api.ErrDead {
			t.Error(name, e)
		}
		mustBeDead(t, s)
		mustBeLost(t, s)
		d.Power(false, nil)
		mustBeDead(t, s)
		mustBeLost(t, s)
		s.Abort()
		mustBeDead(t, s)
		if got := reading(opened(t, d)); !slices.Equal(got, want) {
			t.Error(name, "half of it was committed", got)
		}
	}
}

func TestDoOfNothingOnADeadDevice(t *testing.T) {
	for _, f := range []func(){nil, func() {}} {
		s, d := fresh(t, 16)
		die(d)
		if e := s.Do(f); e != api.ErrDead {
			t.Error(e)
		}
		d.Power(false, nil)
		mustBeDead(t, s)
	}
}

// An error, or a panic, that is no loss of power leaves the store alive.
func TestDoStaysAliveBehindErrors(t *testing.T) {
	s, d := fresh(t, 16)
	for n := range uint64(5) {
		s.Do(func() { panic(api.ErrDead) })
		panicked(func() { s.Do(func() { panic("x") }) })
		if e := s.Do(func() { s.Put(0, n) }); e != api.OK || lasting(t, d)[0] != n {
			t.Error(n, e)
		}
	}
}

func TestDoWithinDo(t *testing.T) {
	s, d := fresh(t, 16)
	e := s.Do(func() {
		s.Put(0, 1)
		if e := s.Do(func() { s.Put(1, 1) }); e != api.OK || lasting(t, d)[0] != 1 || lasting(t, d)[1] != 1 {
			t.Error(e)
		}
		s.Put(0, 2)
		if e := s.Do(func() { s.Put(1, 2); panic(api.ErrFull) }); e != api.ErrFull || s.Load(0) != 1 || s.Load(1) != 1 {
			t.Error(e)
		}
		s.Put(2, 3)
	})
	if got := lasting(t, d); e != api.OK || !slices.Equal(got[:3], []uint64{1, 1, 3}) {
		t.Error(e, got)
	}
}

// 7.4

// keeps are the sets of words that a loss of power is tried with: all there are of few words; of many words none, all, each alone, all but each, and some by lot.
func keeps(waiting []int) [][]int {
	var sets [][]int
	if len(waiting) <= 5 {
		for m := range 1 << len(waiting) {
			sets = append(sets, chosen(waiting, func(k int) bool { return m>>k&1 == 1 }))
		}
		return sets
	}
	r := rand.New(rand.NewSource(int64(len(waiting))))
	sets = append(sets, nil, waiting)
	for i := range waiting {
		sets = append(sets, chosen(waiting, func(k int) bool { return k == i }), chosen(waiting, func(k int) bool { return k != i }))
	}
	for range 4 {
		sets = append(sets, chosen(waiting, func(int) bool { return r.Intn(2) == 0 }))
	}
	return sets
}

func chosen(l []int, in func(k int) bool) []int {
	var out []int
	for k, x := range l {
		if in(k) {
			out = append(out, x)
		}
	}
	return out
}

// eachStep calls act on copies of d, which lose their power at each step of it, and f with each way in which it comes back; at last act goes through, and whole is told that copy.
func eachStep(d *nvm.Device, act func(c *nvm.Device) api.Errno, f, whole func(c *nvm.Device)) {
	for k := 0; ; k++ {
		c := d.Copy()
		c.Fuse(k)
		if act(c) == api.OK {
			c.Fuse(-1)
			whole(c)
			return
		}
		for _, l := range keeps(c.Waiting()) {
			back := c.Copy()
			back.Power(false, l)
			f(back)
		}
	}
}

// change makes what opens a store and commits w within a Do.
func change(t *testing.T, w []word) func(c *nvm.Device) api.Errno {
	return func(c *nvm.Device) api.Errno {
		s := opened(t, c)
		e := s.Do(func() { putAll(s, w) })
		if e == api.ErrDead {
			mustBeDead(t, s)
		}
		return e
	}
}

// plan is one change after the other, of words that share lines and of words that do not.
var plan = [][]word{
	{{0, 1}, {8, 1}, {23, 1}},
	{{0, 2}},
	{{23, 3}, {0, 3}, {1, 3}, {23, 4}, {9, 3}},
	{{8, 0}, {23, 0}, {7, math.MaxUint64}},
}

// behind is the store behind the first n changes of the plan.
func behind(n int) []uint64 {
	l := make([]uint64, 24)
	for _, w := range plan[:n] {
		l = with(l, w)
	}
	return l
}

func TestALossAtEachStep(t *testing.T) {
	_, d := fresh(t, 24)
	for n, w := range plan {
		outcomes := map[bool]int{}
		eachStep(d, change(t, w), func(c *nvm.Device) {
			got := reading(opened(t, c))
			whole := slices.Equal(got, behind(n+1))
			if !whole && !slices.Equal(got, behind(n)) || !slices.Equal(lasting(t, c), got) {
				t.Fatal(n, got)
			}
			outcomes[whole]++
		}, func(c *nvm.Device) {
			if got := lasting(t, c); !slices.Equal(got, behind(n+1)) {
				t.Fatal("a change that was answered OK is gone", n, got)
			}
			d = c
		})
		if outcomes[false] == 0 || outcomes[true] == 0 {
			t.Error(n, outcomes)
		}
	}
}

// In Open, too, and in the Open behind that.
func TestLossesInOpen(t *testing.T) {
	open := func(c *nvm.Device) api.Errno {
		_, e := Open(c)
		return e
	}
	_, d := fresh(t, 24)
	inOpen := 0
	for n, w := range plan[:2] {
		check := func(c *nvm.Device) {
			inOpen++
			got := reading(opened(t, c))
			if !slices.Equal(got, behind(n+1)) && !slices.Equal(got, behind(n)) {
				t.Fatal(n, got)
			}
		}
		eachStep(d, change(t, w), func(c *nvm.Device) { eachStep(c, open, check, check) }, func(c *nvm.Device) { d = c })
	}
	if inOpen < 400 {
		t.Error("few losses", inOpen)
	}
}

// Many changes, some refused, with losses in between, against what must stand.
func TestLongRuns(t *testing.T) {
	for seed := range int64(12) {
		r := rand.New(rand.NewSource(seed))
		s, d := fresh(t, 8*(1+r.Intn(30)))
		want := reading(s)
		for range 60 {
			w := make([]word, r.Intn(40))
			for k := range w {
				w[k] = word{r.Intn(s.Size()), r.Uint64() >> r.Intn(64)}
			}
			refuse := r.Intn(5) == 0
			d.Fuse(r.Intn(8 * (len(w) + 2)))
			e := s.Do(func() {
				putAll(s, w)
				if refuse {
					panic(api.ErrFull)
				}
			})
			switch {
			case refuse && e == api.ErrFull:
				w = nil
			case !refuse && e == api.OK:
				want, w = with(want, w), nil
			case e != api.ErrDead || refuse:
				t.Fatal(seed, e)
			}
			for d.Dead() || r.Intn(4) == 0 {
				d.Power(r.Intn(2) == 0, chosen(d.Waiting(), func(int) bool { return r.Intn(3) == 0 }))
				d.Fuse(r.Intn(150))
				if again, e := Open(d); e == api.OK {
					s = again
				}
			}
			d.Fuse(-1)
			got := reading(s)
			if !slices.Equal(got, want) && !slices.Equal(got, with(want, w)) {
				t.Fatal(seed, got, want, w)
			}
			want = got
		}
	}
}

// The greatest change is whole or not at all, too.
func TestALossInTheGreatestChange(t *testing.T) {
	s, d := fresh(t, 6144)
	fill := func(s *Store, v uint64) api.Errno {
		return s.Do(func() {
			for i := range s.Size() {
				s.Put(i, v)
			}
		})
	}
	was := d.Steps()
	if e := fill(s, 1); e != api.OK {
		t.Fatal(e)
	}
	steps := d.Steps() - was
	seen := map[uint64]int{}
	for k := 0; k < steps; k += 1 + steps/60 {
		c := d.Copy()
		s := opened(t, c)
		c.Fuse(k)
		if e := fill(s, 2); e != api.ErrDead {
			t.Fatal(k, e)
		}
		c.Power(k%2 == 0, chosen(c.Waiting(), func(i int) bool { return (i+k)%3 == 0 }))
		got := reading(opened(t, c))
		seen[got[0]]++
		if !slices.Equal(got, slices.Repeat(got[:1], len(got))) {
			t.Fatal(k)
		}
	}
	if len(seen) != 2 || seen[1] == 0 || seen[2] == 0 {
		t.Error(seen)
	}
}

// 7.5

// The same calls take the same steps and leave the same words, whatever they put.
func TestStepsHangOnWhatIsGivenAlone(t *testing.T) {
	run := func(fuse int) (int, []int) {
		s, d := fresh(t, 64)
		d.Fuse(fuse)
		s.Do(func() {
			for i := range 40 {
				s.Put(i*37%64, uint64(i)+1)
			}
		})
		return d.Steps(), d.Waiting()
	}
	for fuse := range 140 {
		steps, waiting := run(fuse)
		if again, l := run(fuse); again != steps || !slices.Equal(l, waiting) {
			t.Fatal(fuse, steps, again, waiting, l)
		}
	}
}

func TestExamples(t *testing.T) {
	s, _ := fresh(t, 8)
	if e := s.Do(func() { s.Put(0, 5) }); e != api.OK || s.Load(0) != 5 {
		t.Error(e, s.Load(0))
	}
	if e := s.Do(func() { s.Put(0, 6); panic(api.ErrFull) }); e != api.ErrFull || s.Load(0) != 5 {
		t.Error(e, s.Load(0))
	}
}
