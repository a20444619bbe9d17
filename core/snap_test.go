package core

import (
	"fmt"
	"math/rand"
	"slices"
	"strings"
	"testing"

	"reliquary/api"
	"reliquary/nvm"
)

// 16.3

func TestNumbersOfSnapshots(t *testing.T) {
	c, d := fresh(t, leastWords)
	var have []int
	next := 1
	r := rand.New(rand.NewSource(3))
	for i := range 300 {
		switch {
		case r.Intn(2) == 0:
			want := api.OK
			if len(have) == 8 {
				want = api.ErrMany
			}
			id, e := c.Snap()
			if e != want || e == api.OK && id != next || e != api.OK && id != 0 {
				t.Fatal(i, id, e, next, want)
			}
			if e == api.OK {
				have = append(have, id)
				next++
			}
		case len(have) > 0:
			k := r.Intn(len(have))
			must(t, c.Drop(have[k]))
			if e := c.Drop(have[k]); e != api.ErrNone {
				t.Fatal(e)
			}
			have = slices.Delete(have, k, k+1)
		}
		if r.Intn(9) == 0 {
			c = opened(t, d)
		}
		if l, e := c.Snaps(); !slices.Equal(l, have) || e != api.OK {
			t.Fatal(l, e, have)
		}
		for id := -2; id < next+2; id++ {
			want := api.ErrNone
			if slices.Contains(have, id) {
				want = api.OK
			}
			if v, e := c.At(id); e != want || (v != nil) != (want == api.OK) {
				t.Fatal(id, e, want)
			}
			if want == api.ErrNone {
				if e := c.Drop(id); e != want {
					t.Fatal(id, e)
				}
			}
		}
		mustBeSound(t, c)
	}
	if next < 100 {
		t.Error(next)
	}
}

// A View of a snapshot goes on until that is dropped, whatever else comes and goes.
func TestViewsOfSnapshots(t *testing.T) {
	c, _ := fresh(t, leastWords)
	m := newModel()
	var models []model
	var views []*View
	for i := range 8 {
		put(t, c, m, "k", fmt.Sprint("value number ", i))
		put(t, c, m, fmt.Sprint("k", i), strings.Repeat("v", i*100))
		setScore(t, c, m, fmt.Sprint("m", i%3), float64(i))
		id, e := c.Snap()
		must(t, e)
		for range 2 {
			v, e := c.At(id)
			must(t, e)
			views, models = append(views, v), append(models, m.clone())
		}
	}
	for i := 7; i >= 0; i-- {
		for k := range views {
			if k < 2*(i+1) {
				mustTell(t, views[k], models[k])
				continue
			}
			mustAnswer(t, api.ErrNone, onView(views[k])...)
		}
		must(t, c.Drop(i+1))
		mustBeSound(t, c)
	}
	// A later snapshot has another number: the old Views have none.
	_, e := c.Snap()
	must(t, e)
	for _, v := range views {
		mustAnswer(t, api.ErrNone, onView(v)...)
	}
	mustTell(t, c.Now(), m)
}

// W4: the View of Now tells what stands at each call, that of a pin what stood.
func TestNowAndPins(t *testing.T) {
	c, _ := fresh(t, leastWords)
	m := newModel()
	now := c.Now()
	mustTell(t, now, m)
	var views []*View
	var models []model
	for i := range 8 {
		put(t, c, m, fmt.Sprint("key", i%5), strings.Repeat("value", i*20))
		setScore(t, c, m, "m", float64(i))
		v, e := c.Pin()
		must(t, e)
		views, models = append(views, v), append(models, m.clone())
		mustTell(t, now, m)
	}
	if v, e := c.Pin(); v != nil || e != api.ErrMany {
		t.Error(v, e)
	}
	for key := range m.pairs {
		_, e := c.Del(key)
		must(t, e)
	}
	_, e := c.Unset("m")
	must(t, e)
	mustTell(t, now, newModel())
	for _, i := range []int{3, 0, 7, 1, 2, 6, 4, 5} {
		for k, v := range views {
			if v != nil {
				mustTell(t, v, models[k])
			}
		}
		must(t, c.Release(views[i]))
		mustAnswer(t, api.ErrNone, onView(views[i])...)
		if e := c.Release(views[i]); e != api.ErrNone {
			t.Error(e)
		}
		views[i] = nil
		mustBeSound(t, c)
	}
	if _, e := c.Pin(); e != api.OK {
		t.Error(e)
	}
}

// Views that are no pins of this Core, or no longer, are not released.
func TestReleaseOfOthers(t *testing.T) {
	c, d, m := few(t)
	other, _, _ := few(t)
	foreign, e := other.Pin()
	must(t, e)
	at, e := c.At(1)
	must(t, e)
	for i, v := range []*View{nil, {}, c.Now(), at, foreign, other.Now()} {
		if e := c.Release(v); e != api.ErrNone {
			t.Error(i, e)
		}
	}
	if _, _, e := foreign.Get("a"); e != api.OK {
		t.Error(e)
	}
	pinned, e := c.Pin()
	must(t, e)
	c = opened(t, d)
	if e := c.Release(pinned); e != api.ErrNone {
		t.Error(e)
	}
	mustTell(t, c.Now(), m)
	for range 8 {
		_, e := c.Pin()
		must(t, e)
	}
	mustBeSound(t, c)
}

// 16.4

func TestScan(t *testing.T) {
	c, _ := fresh(t, leastWords)
	m := newModel()
	for _, k := range []string{"a", "a\x00", "aa", "ab", "b", "\x00", "\xff", "\xff\xff", "zz"} {
		put(t, c, m, k, strings.Repeat(k, 5))
	}
	bounds := append([]string{"", "a\x00\x00", "c", strings.Repeat("\xff", 64), strings.Repeat("\xff", 200)}, "a", "a\x00", "ab", "\xff")
	for _, lo := range bounds {
		for _, hi := range bounds {
			for _, n := range []int{-1 << 63, -1, 0, 1, 2, 8, 9, 10, 1000, 1<<63 - 1} {
				if l, e := c.Now().Scan(lo, hi, n); !samePairs(l, m.scan(lo, hi, n)) || e != api.OK {
					t.Error(lo, hi, n, l, e)
				}
			}
		}
	}
}

func TestRangesAndSpreads(t *testing.T) {
	c, _ := fresh(t, leastWords)
	m := newModel()
	for i, x := range edges {
		setScore(t, c, m, fmt.Sprint("m", i), x)
		setScore(t, c, m, fmt.Sprint("a", i), x)
	}
	bounds := append(slices.Clone(edges), nan, 2, -2)
	for _, lo := range bounds {
		for _, hi := range bounds {
			want := m.within(lo, hi)
			if s, e := c.Now().Spread(lo, hi); !sameSpread(s, spreadOf(want)) || e != api.OK {
				t.Error(lo, hi, s, e)
			}
			for _, n := range []int{-1 << 63, -1, 0, 1, 5, 1000, 1<<63 - 1} {
				if l, e := c.Now().Range(lo, hi, n); !sameScored(l, want[:max(0, min(n, len(want)))]) || e != api.OK {
					t.Error(lo, hi, n, l, e)
				}
			}
		}
	}
}

// More than 1,000 pairs, or members: so many are told, but a Spread is of all.
func TestMany(t *testing.T) {
	c, _ := fresh(t, 65536)
	m := newModel()
	var l []api.Op
	for i := range 1040 {
		op := api.Op{Kind: api.OPut, Key: fmt.Sprintf("k%04d", i*7%1040), Value: []byte{byte(i)}}
		m.pairs[op.Key] = string(op.Value)
		if l = append(l, op); len(l) == 8 {
			must(t, c.Batch(l))
			l = nil
		}
	}
	mustTell(t, c.Now(), m)
	for _, n := range []int{999, 1000, 1001, 5000} {
		if l, e := c.Now().Scan("k0020", "", n); len(l) != min(n, 1000) || l[0].Key != "k0020" || e != api.OK {
			t.Error(n, len(l), e)
		}
	}
	for i := range 1040 {
		op := api.Op{Kind: api.OSet, Key: fmt.Sprint("m", i), X: float64(i)}
		m.members[op.Key] = op.X
		if l = append(l, op); len(l) == 8 {
			must(t, c.Batch(l))
			l = nil
		}
	}
	mustTell(t, c.Now(), m)
	for _, n := range []int{999, 1000, 1001, 5000} {
		if l, e := c.Now().Range(20, inf, n); len(l) != min(n, 1000) || l[0].Score != 20 || e != api.OK {
			t.Error(n, len(l), e)
		}
	}
	if s, e := c.Now().Spread(1, inf); s.N != 1039 || s.Most != 1039 || e != api.OK {
		t.Error(s, e)
	}
	mustBeSound(t, c)
}

// 16.7, 16.8

// run is a Core and what each of its Views is to tell.
type run struct {
	t     *testing.T
	c     *Core
	d     *nvm.Device
	r     *rand.Rand
	key   func(r *rand.Rand) string
	long  int // bytes of the longest values
	now   model
	snaps map[int]model
	pins  map[*View]model
	next  int
	full  int // calls that answered ErrFull
}

func newRun(t *testing.T, words int, seed int64, key func(r *rand.Rand) string, long int) *run {
	x := &run{t: t, r: rand.New(rand.NewSource(seed)), key: key, long: long, now: newModel(), snaps: map[int]model{}, pins: map[*View]model{}, next: 1}
	x.c, x.d = fresh(t, words)
	return x
}

// bytes is what counts for W10.
func (x *run) bytes() int {
	n := x.now.bytes()
	for _, m := range x.snaps {
		n += 256 + m.bytes()
	}
	for _, m := range x.pins {
		n += 256 + m.bytes()
	}
	return n
}

// fits tells whether so many bytes more count little.
func (x *run) fits(more int) bool {
	return x.bytes()+more <= x.d.Words()/2
}

// refused tells whether a call was, which it may be only where what stands counts much.
func (x *run) refused(e api.Errno, fit bool) bool {
	x.t.Helper()
	switch {
	case e == api.OK:
		return false
	case e != api.ErrFull:
		x.t.Fatal(e)
	case fit:
		x.t.Fatal("full, though what stands counts little", x.bytes(), x.now.bytes(), len(x.snaps), len(x.pins))
	}
	x.full++
	return true
}

func (x *run) op() api.Op {
	op := api.Op{Kind: 1 + x.r.Intn(5), Key: x.key(x.r), X: x.r.NormFloat64()}
	if x.r.Intn(3) == 0 {
		op.X = edges[1+x.r.Intn(len(edges)-2)]
	}
	op.Value = counted(x.r.Intn(x.long+1), x.r.Intn(9))
	return op
}

func adding(l []api.Op) bool {
	return slices.ContainsFunc(l, func(op api.Op) bool { return op.Kind != api.ODel && op.Kind != api.OUnset })
}

// batch does some ops.
func (x *run) batch(l []api.Op) {
	next, want := batched(x.now, l)
	if want != api.OK {
		if e := x.c.Batch(l); e != want {
			x.t.Fatal(e, want)
		}
		return
	}
	e := x.c.Batch(l)
	if !adding(l) && e != api.OK {
		x.t.Fatal("taken away", e)
	}
	if !x.refused(e, x.fits(next.bytes()-x.now.bytes())) {
		x.now = next
	}
}

func (x *run) snap() {
	want := len(x.snaps) < 8
	id, e := x.c.Snap()
	if !want {
		if e != api.ErrMany {
			x.t.Fatal(e)
		}
		return
	}
	if !x.refused(e, x.fits(256+x.now.bytes())) {
		if id != x.next {
			x.t.Fatal(id, x.next)
		}
		x.snaps[id] = x.now
		x.next++
	}
}

func (x *run) pin() {
	v, e := x.c.Pin()
	if len(x.pins) == 8 {
		if e != api.ErrMany {
			x.t.Fatal(e)
		}
		return
	}
	if !x.refused(e, x.fits(256+x.now.bytes())) {
		x.pins[v] = x.now
	}
}

// drop drops the snapshot that stands for a random number, if there are any.
func (x *run) drop() {
	l, e := x.c.Snaps()
	must(x.t, e)
	if len(l) > 0 {
		id := l[x.r.Intn(len(l))]
		must(x.t, x.c.Drop(id))
		delete(x.snaps, id)
	}
}

func (x *run) release() {
	for v := range x.pins {
		must(x.t, x.c.Release(v))
		delete(x.pins, v)
		return
	}
}

// reopen opens the Core anew, behind a loss of power at rest.
func (x *run) reopen() {
	kill(x.d)
	x.d.Power(x.r.Intn(2) == 0, nil)
	x.c = opened(x.t, x.d)
	clear(x.pins)
}

func (x *run) step() {
	switch n := x.r.Intn(100); {
	case n < 4:
		x.snap()
	case n < 7:
		x.pin()
	case n < 10:
		x.drop()
	case n < 12:
		x.release()
	case n < 13:
		x.reopen()
	default:
		l := []api.Op{x.op()}
		for x.r.Intn(3) == 0 && len(l) < 8 {
			l = append(l, x.op())
		}
		x.batch(l)
	}
}

// look holds all that the Views tell against what they are to.
func (x *run) look() {
	x.t.Helper()
	mustTell(x.t, x.c.Now(), x.now)
	for id, m := range x.snaps {
		v, e := x.c.At(id)
		must(x.t, e)
		mustTell(x.t, v, m)
	}
	for v, m := range x.pins {
		mustTell(x.t, v, m)
	}
	mustBeSound(x.t, x.c)
}

// families are keys of several kinds.
var families = map[string]func(r *rand.Rand) string{
	"few":    func(r *rand.Rand) string { return fmt.Sprint(r.Intn(12)) },
	"many":   func(r *rand.Rand) string { return fmt.Sprint(r.Intn(2000)) },
	"long":   func(r *rand.Rand) string { return strings.Repeat("long", 15) + fmt.Sprintf("%04d", r.Intn(300)) },
	"uneven": func(r *rand.Rand) string { return strings.Repeat("\xff", 1+r.Intn(64)) },
	"bytes": func(r *rand.Rand) string {
		b := make([]byte, 1+r.Intn(64))
		r.Read(b)
		return string(b)
	},
}

// Whatever comes and goes, each View tells what it is to, and nothing else is taken.
func TestLongRuns(t *testing.T) {
	for name, f := range families {
		for seed, long := range []int{5, 60, 1024} {
			x := newRun(t, leastWords+seed*8000, int64(seed), f, long)
			for i := range 400 {
				x.step()
				if i%20 == 0 {
					x.look()
				}
			}
			x.look()
			if t.Failed() {
				t.Fatal(name, seed)
			}
		}
	}
}

// What is handed in is copied, what is told is new memory.
func TestMemoryOfItsOwn(t *testing.T) {
	c, _, m := few(t)
	value := []byte(strings.Repeat("value", 9))
	short := []byte("short")
	l := []api.Op{{Kind: api.OPut, Key: "v", Value: value}, {Kind: api.OPut, Key: "s", Value: short[:2]}, {Kind: api.OBump, Key: "m", X: 1}}
	spare := append(l, api.Op{Kind: api.OUnset, Key: "m"})
	must(t, c.Batch(l))
	m.pairs["v"], m.pairs["s"], m.members["m"] = string(value), "sh", 1
	if string(short) != "short" || spare[3].Kind != api.OUnset || spare[2].Kind != api.OBump || spare[2].X != 1 || string(value) != m.pairs["v"] {
		t.Error("what was handed in was changed")
	}
	clear(value)
	clear(short)
	clear(spare)
	mustTell(t, c.Now(), m)
	for _, key := range []string{"v", "s", "b"} {
		b, _, e := c.Now().Get(key)
		must(t, e)
		clear(b[:cap(b)])
	}
	pairs, e := c.Now().Scan("", "", 9)
	must(t, e)
	for i, p := range pairs {
		clear(p.Value[:cap(p.Value)])
		pairs[i] = api.Pair{}
	}
	scored, e := c.Now().Range(-inf, inf, 9)
	must(t, e)
	clear(scored[:cap(scored)])
	snaps, e := c.Snaps()
	must(t, e)
	clear(snaps[:cap(snaps)])
	if l, e := c.Snaps(); !slices.Equal(l, []int{1}) || e != api.OK {
		t.Error(l, e)
	}
	mustTell(t, c.Now(), m)
	mustBeSound(t, c)
}
