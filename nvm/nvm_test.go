package nvm

import (
	"math"
	"slices"
	"testing"

	"reliquary/api"
)

// panicked is what f panics with; nil if it does not.
func panicked(f func()) (v any) {
	defer func() { v = recover() }()
	f()
	return nil
}

func device(t *testing.T, words int) *Device {
	t.Helper()
	d, e := New(words)
	if e != api.OK || d == nil {
		t.Fatal("New", words, e)
	}
	return d
}

// lasting is all that a loss of power would leave.
func lasting(d *Device) []uint64 {
	c := d.Copy()
	c.Power(false, nil)
	return reading(c)
}

func reading(d *Device) []uint64 {
	l := make([]uint64, d.Words())
	for i := range l {
		l[i] = d.Load(i)
	}
	return l
}

// steps are all calls that burn a fuse, with a word that is there.
func steps(d *Device) map[string]func() {
	return map[string]func(){
		"Store": func() { d.Store(0, 9) },
		"Flush": func() { d.Flush(0) },
		"Fence": func() { d.Fence() },
	}
}

// 1.1

func TestNewBounds(t *testing.T) {
	for _, n := range []int{math.MinInt, -16, -8, -1, 0, 1, 4, 7, 9, 12, 15, 17, 65529, 65535, 65537, 65544, 131072, math.MaxInt, math.MaxInt - 7} {
		if d, e := New(n); d != nil || e != api.ErrArg {
			t.Error(n, d, e)
		}
	}
	for _, n := range []int{8, 16, 24, 64, 1000, 65528, 65536} {
		d, e := New(n)
		if d == nil || e != api.OK {
			t.Fatal(n, e)
		}
		if d.Words() != n || d.Steps() != 0 || d.Dead() || len(d.Waiting()) != 0 {
			t.Error(n, d.Words(), d.Steps(), d.Dead(), d.Waiting())
		}
		for i := range n {
			if d.Load(i) != 0 {
				t.Fatal(n, i, d.Load(i))
			}
		}
	}
}

func TestStoreIsReadAtOnce(t *testing.T) {
	for _, n := range []int{8, 24, 65536} {
		d := device(t, n)
		for i := range n {
			d.Store(i, uint64(i)+math.MaxUint64-3)
		}
		for i := range n {
			if d.Load(i) != uint64(i)+math.MaxUint64-3 {
				t.Fatal(n, i, d.Load(i))
			}
		}
		if d.Steps() != n {
			t.Error(d.Steps())
		}
	}
}

func TestFlushAndFence(t *testing.T) {
	for w := range 8 {
		d := device(t, 24)
		for i := range 24 {
			d.Store(i, uint64(100+i))
		}
		d.Flush(8 + w)
		if l := lasting(d); !slices.Equal(l, make([]uint64, 24)) {
			t.Error("a flush without a fence lasts", l)
		}
		d.Store(8, 7)
		d.Store(16, 7)
		d.Fence()
		want := make([]uint64, 24)
		for i := 8; i < 16; i++ {
			want[i] = uint64(100 + i)
		}
		if l := lasting(d); !slices.Equal(l, want) {
			t.Error(w, l)
		}
		if d.Load(8) != 7 || d.Load(9) != 109 || d.Load(16) != 7 {
			t.Error("Load", d.Load(8), d.Load(9), d.Load(16))
		}
		if d.Steps() != 28 {
			t.Error(d.Steps())
		}
	}
}

func TestLaterFlushCounts(t *testing.T) {
	d := device(t, 16)
	d.Store(0, 1)
	d.Store(1, 1)
	d.Flush(0)
	d.Store(8, 4)
	d.Flush(8)
	d.Store(0, 2)
	d.Flush(7)
	d.Store(0, 3)
	d.Fence()
	if l := lasting(d); l[0] != 2 || l[1] != 1 || l[8] != 4 {
		t.Error(l)
	}
	if !slices.Equal(d.Waiting(), []int{0}) {
		t.Error(d.Waiting())
	}
}

func TestFenceLeavesNothingOnItsWay(t *testing.T) {
	d := device(t, 8)
	d.Store(0, 1)
	d.Flush(0)
	d.Fence()
	d.Store(0, 2)
	d.Fence()
	if l := lasting(d); l[0] != 1 {
		t.Error("a fence without a flush changed what lasts", l)
	}
	d.Evict(0)
	d.Fence()
	if l := lasting(d); l[0] != 2 {
		t.Error("a flush was brought twice", l)
	}
	d.Store(0, 3)
	d.Flush(0)
	d.Fence()
	if l := lasting(d); l[0] != 3 {
		t.Error("a later flush is not brought", l)
	}
}

func TestStepsCountWhatWentWell(t *testing.T) {
	d := device(t, 8)
	d.Store(0, 1)
	d.Flush(3)
	d.Fence()
	d.Fence()
	d.Load(0)
	d.Waiting()
	d.Evict(0)
	d.Evict(8)
	d.Copy()
	panicked(func() { d.Store(8, 1) })
	panicked(func() { d.Flush(-1) })
	panicked(func() { d.Load(8) })
	if d.Steps() != 4 {
		t.Error(d.Steps())
	}
	d.Fuse(0)
	panicked(func() { d.Store(0, 1) })
	panicked(func() { d.Store(0, 1) })
	if d.Steps() != 4 {
		t.Error("a lost step counts", d.Steps())
	}
	d.Power(false, nil)
	if d.Steps() != 4 {
		t.Error("Power changed Steps", d.Steps())
	}
	d.Fence()
	if d.Steps() != 5 {
		t.Error(d.Steps())
	}
}

// 1.2

func TestWrongIsAheadOfAllElse(t *testing.T) {
	d := device(t, 16)
	dead := device(t, 16)
	dead.Fuse(0)
	panicked(func() { dead.Fence() })
	fused := device(t, 16)
	fused.Fuse(0)
	for name, d := range map[string]*Device{"live": d, "dead": dead, "fused": fused} {
		for _, i := range []int{math.MinInt, -9, -8, -1, 16, 17, 24, 65536, math.MaxInt} {
			for call, f := range map[string]func(){
				"Load":  func() { d.Load(i) },
				"Store": func() { d.Store(i, 1) },
				"Flush": func() { d.Flush(i) },
			} {
				if v := panicked(f); v != (Wrong{Word: i}) {
					t.Error(name, call, i, v)
				}
			}
		}
		if d.Dead() != (name == "dead") || d.Steps() != 0 || len(d.Waiting()) != 0 {
			t.Error(name, d.Dead(), d.Steps(), d.Waiting())
		}
	}
	fused.Fuse(1)
	panicked(func() { fused.Store(16, 1) })
	if v := panicked(func() { fused.Store(15, 1) }); v != nil {
		t.Error("a wrong word burnt the fuse", v)
	}
}

func TestFuseBurns(t *testing.T) {
	for k := range 6 {
		for last := range steps(nil) {
			d := device(t, 8)
			d.Fuse(k)
			for n := range k {
				d.Load(0)
				d.Waiting()
				d.Evict(1)
				[]func(){func() { d.Store(2, uint64(n)+1) }, func() { d.Flush(2) }, func() { d.Fence() }}[n%3]()
			}
			if d.Dead() || d.Steps() != k {
				t.Fatal(k, d.Dead(), d.Steps())
			}
			d.Load(0)
			now, lasts := reading(d), lasting(d)
			if v := panicked(steps(d)[last]); v != (Lost{}) {
				t.Error(k, last, v)
			}
			if !d.Dead() || d.Steps() != k {
				t.Error(k, last, d.Dead(), d.Steps())
			}
			if !slices.Equal(lasting(d), lasts) {
				t.Error(k, last, "what lasts changed")
			}
			d.Power(true, nil)
			if !slices.Equal(reading(d), now) {
				t.Error(k, last, "what is read changed")
			}
		}
	}
}

func TestLostStepsDoNothing(t *testing.T) {
	d := device(t, 8)
	d.Store(0, 1)
	d.Flush(0)
	d.Fuse(0)
	if v := panicked(func() { d.Fence() }); v != (Lost{}) {
		t.Error(v)
	}
	if l := lasting(d); l[0] != 0 {
		t.Error("a lost fence brought a line", l)
	}
	if !slices.Equal(d.Waiting(), []int{0}) {
		t.Error(d.Waiting())
	}
}

func TestDeadDevicePanics(t *testing.T) {
	d := device(t, 8)
	d.Store(3, 4)
	d.Fuse(0)
	panicked(func() { d.Store(3, 5) })
	calls := steps(d)
	calls["Load"] = func() { d.Load(3) }
	for range 2 {
		for name, f := range calls {
			if v := panicked(f); v != (Lost{}) {
				t.Error(name, v)
			}
		}
		for _, k := range []int{5, -1, 0} {
			d.Fuse(k)
			if !d.Dead() {
				t.Error("Fuse revived the device")
			}
			for name, f := range calls {
				if v := panicked(f); v != (Lost{}) {
					t.Error(k, name, v)
				}
			}
		}
	}
	if d.Words() != 8 || d.Steps() != 1 || !slices.Equal(d.Waiting(), []int{3}) || !d.Copy().Dead() {
		t.Error(d.Words(), d.Steps(), d.Waiting())
	}
	d.Fuse(1)
	d.Power(false, nil)
	for range 5 {
		d.Fence()
	}
	if d.Dead() {
		t.Error("Power left a fuse")
	}
}

func TestFuseIsReplaced(t *testing.T) {
	d := device(t, 8)
	for _, k := range []int{-1, -9, math.MinInt} {
		d.Fuse(0)
		d.Fuse(k)
		for range 20 {
			d.Fence()
		}
	}
	d.Fuse(1)
	d.Fuse(math.MaxInt)
	d.Fence()
	d.Fence()
	d.Fuse(2)
	d.Fence()
	d.Fuse(2)
	d.Fence()
	d.Fence()
	if v := panicked(func() { d.Fence() }); v != (Lost{}) {
		t.Error(v)
	}
}

// 1.3

func TestEvict(t *testing.T) {
	d := device(t, 24)
	for i := range 24 {
		d.Store(i, uint64(i+1))
	}
	for _, i := range []int{math.MinInt, -8, -1, 24, 25, math.MaxInt} {
		if e := d.Evict(i); e != api.ErrArg {
			t.Error(i, e)
		}
	}
	if len(d.Waiting()) != 24 {
		t.Error("a refused Evict changed what lasts", d.Waiting())
	}
	if e := d.Evict(15); e != api.OK {
		t.Error(e)
	}
	if !slices.Equal(d.Waiting(), []int{0, 1, 2, 3, 4, 5, 6, 7, 16, 17, 18, 19, 20, 21, 22, 23}) {
		t.Error(d.Waiting())
	}
	d.Store(8, 77)
	d.Fuse(0)
	panicked(func() { d.Store(0, 99) })
	if d.Evict(0) != api.OK || d.Evict(8) != api.OK || d.Evict(24) != api.ErrArg || !d.Dead() {
		t.Error("dead")
	}
	d.Power(false, nil)
	if d.Load(0) != 1 || d.Load(7) != 8 || d.Load(8) != 77 || d.Load(15) != 16 || d.Load(16) != 0 {
		t.Error(reading(d))
	}
}

func TestEvictBurnsNoFuse(t *testing.T) {
	d := device(t, 8)
	d.Fuse(1)
	d.Evict(0)
	d.Evict(0)
	if v := panicked(func() { d.Fence() }); v != nil {
		t.Error(v)
	}
	if d.Evict(0) != api.OK || d.Dead() {
		t.Error("Evict")
	}
}

func TestEvictLeavesOtherLinesOnTheirWay(t *testing.T) {
	d := device(t, 16)
	d.Store(0, 1)
	d.Store(8, 2)
	d.Flush(0)
	d.Flush(8)
	d.Evict(0)
	d.Fence()
	if l := lasting(d); l[0] != 1 || l[8] != 2 {
		t.Error(l)
	}
}

func TestWaiting(t *testing.T) {
	d := device(t, 32)
	for _, i := range []int{31, 0, 9, 8, 15} {
		d.Store(i, 1)
	}
	d.Store(20, 0)
	if !slices.Equal(d.Waiting(), []int{0, 8, 9, 15, 31}) {
		t.Error(d.Waiting())
	}
	d.Flush(8)
	if !slices.Equal(d.Waiting(), []int{0, 8, 9, 15, 31}) {
		t.Error("a flush alone lasts", d.Waiting())
	}
	d.Fence()
	d.Store(9, 2)
	d.Store(0, 0)
	if !slices.Equal(d.Waiting(), []int{9, 31}) {
		t.Error(d.Waiting())
	}
	d.Store(9, 1)
	if !slices.Equal(d.Waiting(), []int{31}) {
		t.Error(d.Waiting())
	}
}

func TestPowerKeepsWhatIsNamed(t *testing.T) {
	for _, c := range []struct {
		flip bool
		l    []int
		want []uint64
	}{
		{false, nil, []uint64{1, 2, 0, 0}},
		{false, []int{}, []uint64{1, 2, 0, 0}},
		{false, []int{0}, []uint64{5, 2, 0, 0}},
		{false, []int{2, 2, 1, -1, 16, math.MinInt, math.MaxInt}, []uint64{1, 2, 7, 0}},
		{false, []int{0, 1, 2, 3}, []uint64{5, 2, 7, 8}},
		{true, nil, []uint64{5, 2, 7, 8}},
		{true, []int{0}, []uint64{1, 2, 7, 8}},
		{true, []int{3, 3, -1, 16, 2}, []uint64{5, 2, 0, 0}},
		{true, []int{0, 1, 2, 3}, []uint64{1, 2, 0, 0}},
	} {
		for _, dead := range []bool{false, true} {
			d := device(t, 16)
			d.Store(0, 1)
			d.Store(1, 2)
			d.Flush(0)
			d.Fence()
			for i, v := range []uint64{5, 2, 7, 8} {
				d.Store(i, v)
			}
			d.Flush(0)
			if dead {
				d.Fuse(0)
				panicked(func() { d.Fence() })
			}
			d.Power(c.flip, c.l)
			if d.Dead() || len(d.Waiting()) != 0 || !slices.Equal(reading(d)[:4], c.want) {
				t.Error(c, dead, d.Dead(), d.Waiting(), reading(d))
			}
			d.Fence()
			if !slices.Equal(lasting(d)[:4], c.want) {
				t.Error(c, dead, "something was still on its way", lasting(d))
			}
		}
	}
}

func TestPowerTakesTheFuse(t *testing.T) {
	d := device(t, 8)
	d.Fuse(1)
	d.Power(false, nil)
	for range 4 {
		if v := panicked(func() { d.Fence() }); v != nil {
			t.Error(v)
		}
	}
	d.Store(0, 1)
	d.Flush(0)
	d.Fence()
	if l := lasting(d); l[0] != 1 {
		t.Error("a device does not work behind Power", l)
	}
}

func TestCopyIsTheSame(t *testing.T) {
	d := device(t, 16)
	d.Store(0, 1)
	d.Flush(0)
	d.Fence()
	d.Store(0, 2)
	d.Store(8, 3)
	d.Flush(0)
	d.Fuse(2)
	c := d.Copy()
	if c.Words() != 16 || c.Steps() != d.Steps() || c.Dead() || !slices.Equal(c.Waiting(), []int{0, 8}) {
		t.Error(c.Words(), c.Steps(), c.Dead(), c.Waiting())
	}
	c.Fence()
	if !slices.Equal(c.Waiting(), []int{8}) {
		t.Error("what was on its way is not copied", c.Waiting())
	}
	c.Store(9, 9)
	if v := panicked(func() { c.Store(9, 10) }); v != (Lost{}) {
		t.Error("the fuse is not copied", v)
	}
	if !c.Copy().Dead() {
		t.Error("a dead device's copy lives")
	}
}

func TestCopyStandsByItself(t *testing.T) {
	d := device(t, 16)
	d.Store(0, 1)
	d.Flush(0)
	c := d.Copy()
	c.Store(0, 7)
	c.Flush(0)
	c.Store(8, 7)
	c.Flush(8)
	c.Fence()
	c.Fuse(0)
	panicked(func() { c.Fence() })
	if d.Load(0) != 1 || d.Load(8) != 0 || d.Dead() || d.Steps() != 2 || !slices.Equal(d.Waiting(), []int{0}) {
		t.Error(d.Load(0), d.Load(8), d.Dead(), d.Steps(), d.Waiting())
	}
	d.Fence()
	if l := lasting(d); l[0] != 1 || l[8] != 0 {
		t.Error(l)
	}
	c.Power(false, nil)
	if c.Load(0) != 7 || c.Load(8) != 7 {
		t.Error(reading(c))
	}
}

// 1.4

func TestOlderFlushTakesNothingBack(t *testing.T) {
	d := device(t, 16)
	d.Store(0, 1)
	d.Flush(0)
	d.Store(0, 2)
	d.Evict(0)
	if l := lasting(d); l[0] != 2 {
		t.Error(l)
	}
	d.Store(0, 3)
	d.Fence()
	if l := lasting(d); l[0] != 2 {
		t.Error("what lasted is gone, though nothing newer lasts", l)
	}
	d.Flush(0)
	d.Fence()
	if l := lasting(d); l[0] != 3 {
		t.Error(l)
	}
}

func TestWordIsNeverAMixture(t *testing.T) {
	const a, b = 0x1111111122222222, 0xffffffff00000000
	d := device(t, 8)
	for i := range 8 {
		d.Store(i, a)
	}
	d.Flush(0)
	d.Fence()
	for i := range 8 {
		d.Store(i, b)
	}
	for set := range 256 {
		var l []int
		for i := range 8 {
			if set>>i&1 == 1 {
				l = append(l, i)
			}
		}
		for _, flip := range []bool{false, true} {
			c := d.Copy()
			c.Power(flip, l)
			for i := range 8 {
				want := uint64(a)
				if slices.Contains(l, i) != flip {
					want = b
				}
				if c.Load(i) != want {
					t.Fatal(set, flip, i, c.Load(i))
				}
			}
		}
	}
}

// model is the device told once more, as plainly as the chapter does: word by word.
type model struct {
	now, lasts  []uint64
	way         map[int]uint64 // by word
	steps, fuse int
	dead        bool
}

func (m *model) line(i int) []int {
	var l []int
	for k := range 8 {
		l = append(l, i-i%8+k)
	}
	return l
}

// burns tells whether the next step goes on.
func (m *model) burns() bool {
	if m.dead || m.fuse == 0 {
		m.dead = true
		return false
	}
	m.fuse--
	m.steps++
	return true
}

func (m *model) store(i int, v uint64) {
	if m.burns() {
		m.now[i] = v
	}
}

func (m *model) flush(i int) {
	if m.burns() {
		for _, k := range m.line(i) {
			m.way[k] = m.now[k]
		}
	}
}

func (m *model) fence() {
	if m.burns() {
		for k, v := range m.way {
			m.lasts[k] = v
		}
		clear(m.way)
	}
}

func (m *model) evict(i int) {
	for _, k := range m.line(i) {
		m.lasts[k] = m.now[k]
		delete(m.way, k)
	}
}

func (m *model) waiting() []int {
	var l []int
	for i := range m.now {
		if m.now[i] != m.lasts[i] {
			l = append(l, i)
		}
	}
	return l
}

func (m *model) power(flip bool, l []int) {
	for _, i := range m.waiting() {
		if slices.Contains(l, i) == flip {
			m.now[i] = m.lasts[i]
		}
	}
	m.lasts = slices.Clone(m.now)
	clear(m.way)
	m.dead, m.fuse = false, -1
}

// chance is a row of numbers that hangs on its beginning alone.
type chance uint64

func (c *chance) below(n int) int {
	*c = *c*6364136223846793005 + 1442695040888963407
	return int(uint64(*c)>>33) % n
}

// both does one thing by chance to the device and to the model.
func both(c *chance, d *Device, m *model) {
	i, v := c.below(len(m.now)), uint64(c.below(4))
	switch c.below(12) {
	case 0, 1, 2, 3, 4:
		panicked(func() { d.Store(i, v) })
		m.store(i, v)
	case 5, 6:
		panicked(func() { d.Flush(i) })
		m.flush(i)
	case 7, 8:
		panicked(func() { d.Fence() })
		m.fence()
	case 9:
		d.Evict(i)
		m.evict(i)
	case 10:
		k := c.below(30) - 2
		d.Fuse(k)
		m.fuse = k
	case 11:
		var l []int
		for range c.below(6) {
			l = append(l, c.below(len(m.now)))
		}
		flip := c.below(2) == 1
		d.Power(flip, l)
		m.power(flip, l)
	}
}

func TestAgainstModel(t *testing.T) {
	c := chance(1)
	for run := range 400 {
		n := 8 + 8*c.below(3)
		d := device(t, n)
		m := &model{now: make([]uint64, n), lasts: make([]uint64, n), way: map[int]uint64{}, fuse: -1}
		for step := range 100 {
			both(&c, d, m)
			if c.below(8) == 0 {
				d = d.Copy()
			}
			if d.Dead() != m.dead || d.Steps() != m.steps || !slices.Equal(d.Waiting(), m.waiting()) || !slices.Equal(lasting(d), m.lasts) {
				t.Fatal(run, step, "dead", d.Dead(), m.dead, "steps", d.Steps(), m.steps, "waiting", d.Waiting(), m.waiting(), "lasts", lasting(d), m.lasts)
			}
			if !d.Dead() && !slices.Equal(reading(d), m.now) {
				t.Fatal(run, step, reading(d), m.now)
			}
		}
	}
}

// What lasts changes only to what was stored since it last did so.
func TestWhatLastedStays(t *testing.T) {
	c := chance(2)
	for run := range 400 {
		d := device(t, 16)
		since := make([][]uint64, 16)
		before := lasting(d)
		for step := range 100 {
			i := c.below(16)
			switch c.below(6) {
			case 0, 1:
				v := uint64(step + 1)
				d.Store(i, v)
				since[i] = append(since[i], v)
			case 2, 3:
				d.Flush(i)
			case 4:
				d.Fence()
			case 5:
				d.Evict(i)
			}
			after := lasting(d)
			for k := range after {
				if after[k] == before[k] {
					continue
				}
				at := slices.Index(since[k], after[k])
				if at < 0 {
					t.Fatal(run, step, k, "was", before[k], "is", after[k], "stored since", since[k])
				}
				since[k] = since[k][at+1:]
			}
			before = after
		}
	}
}

// 1.5

func TestAnswersAreNewMemory(t *testing.T) {
	d := device(t, 16)
	d.Store(1, 1)
	d.Store(9, 1)
	a := d.Waiting()
	for i := range a[:cap(a)] {
		a[:cap(a)][i] = -5
	}
	if !slices.Equal(d.Waiting(), []int{1, 9}) {
		t.Error(d.Waiting())
	}
}

func TestPowerLeavesItsListAlone(t *testing.T) {
	d := device(t, 16)
	d.Store(1, 1)
	room := []int{9, 1, 1, -3, 70, 4, 5, 6}
	d.Power(false, room[:5])
	if !slices.Equal(room, []int{9, 1, 1, -3, 70, 4, 5, 6}) {
		t.Error(room)
	}
	room[1] = 2
	if d.Load(1) != 1 {
		t.Error("the list is kept")
	}
}

func TestManyFlushesKeepLittle(t *testing.T) {
	d := device(t, 16)
	for i := range 100000 {
		d.Flush(i % 16)
		if i%3 == 0 {
			d.Evict(i % 16)
		}
	}
	if len(d.sent) > 2 {
		t.Error(len(d.sent))
	}
}

// What the chapter's examples tell.
func TestExamples(t *testing.T) {
	d := device(t, 8)
	d.Store(1, 5)
	d.Power(false, nil)
	if d.Load(1) != 0 {
		t.Error(d.Load(1))
	}
	d.Store(1, 5)
	d.Flush(0)
	d.Fence()
	d.Power(false, nil)
	if d.Load(1) != 5 {
		t.Error(d.Load(1))
	}
	d.Store(1, 6)
	d.Power(false, []int{1})
	if d.Load(1) != 6 {
		t.Error(d.Load(1))
	}
}
