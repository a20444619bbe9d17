package core

import (
	"fmt"
	"math/rand"
	"slices"
	"strings"
	"testing"

	"reliquary/api"
	"reliquary/nvm"
)

// 16.6

// kept are the words that a loss of power lets be, of those that wait.
func kept(d *nvm.Device, choice int) []int {
	var l []int
	for i, w := range d.Waiting() {
		if (i*7+choice)%3 == 0 {
			l = append(l, w)
		}
	}
	return l
}

// world is what a Core is to tell: what stands, and what each snapshot does.
type world struct {
	now   model
	snaps map[int]model
}

func (w world) clone() world {
	c := world{w.now.clone(), map[int]model{}}
	for id, m := range w.snaps {
		c.snaps[id] = m
	}
	return c
}

// told tells whether a Core tells a world.
func (w world) told(t *testing.T, c *Core) bool {
	t.Helper()
	l, e := c.Snaps()
	must(t, e)
	if len(l) != len(w.snaps) {
		return false
	}
	pairs, e := c.Now().Scan("", "", 1000)
	must(t, e)
	members, e := c.Now().Range(-inf, inf, 1000)
	must(t, e)
	return samePairs(pairs, w.now.scan("", "", 1000)) && sameScored(members, w.now.within(-inf, inf))
}

// mustTell checks all that a Core tells of a world.
func (w world) mustTell(t *testing.T, c *Core) {
	t.Helper()
	mustTell(t, c.Now(), w.now)
	for id, m := range w.snaps {
		v, e := c.At(id)
		must(t, e)
		mustTell(t, v, m)
	}
	mustBeSound(t, c)
}

// act is a call that changes something, and what it does to a world.
type act struct {
	name string
	do   func(c *Core) api.Errno
	to   func(w *world)
}

var acts = []act{
	{"Put", func(c *Core) api.Errno { return c.Put("k", counted(700, 1)) }, func(w *world) { w.now.pairs["k"] = string(counted(700, 1)) }},
	{"Put anew", func(c *Core) api.Errno { return c.Put("k", []byte("few")) }, func(w *world) { w.now.pairs["k"] = "few" }},
	{"Set", func(c *Core) api.Errno { return c.Set("m", minus) }, func(w *world) { w.now.members["m"] = minus }},
	{"Snap", func(c *Core) api.Errno { _, e := c.Snap(); return e }, func(w *world) { w.snaps[2] = w.now.clone() }},
	{"Bump", func(c *Core) api.Errno { _, e := c.Bump("m", 2.5); return e }, func(w *world) { w.now.members["m"] += 2.5 }},
	{"Batch", func(c *Core) api.Errno {
		return c.Batch([]api.Op{{Kind: api.OPut, Key: "q", Value: counted(300, 2)}, {Kind: api.OSet, Key: "m5", X: inf}, {Kind: api.ODel, Key: "k"}, {Kind: api.OUnset, Key: "m1"}, {Kind: api.OBump, Key: "n", X: -1}})
	}, func(w *world) {
		w.now.pairs["q"] = string(counted(300, 2))
		delete(w.now.pairs, "k")
		delete(w.now.members, "m1")
		w.now.members["m5"], w.now.members["n"] = inf, -1
	}},
	{"Del", func(c *Core) api.Errno { _, e := c.Del("q"); return e }, func(w *world) { delete(w.now.pairs, "q") }},
	{"Unset", func(c *Core) api.Errno { _, e := c.Unset("m2"); return e }, func(w *world) { delete(w.now.members, "m2") }},
	{"Drop", func(c *Core) api.Errno { return c.Drop(1) }, func(w *world) { delete(w.snaps, 1) }},
	{"Drop again", func(c *Core) api.Errno { return c.Drop(2) }, func(w *world) { delete(w.snaps, 2) }},
}

// begun is a device with some of everything, and what its Core tells.
func begun(t *testing.T) (*nvm.Device, world) {
	t.Helper()
	c, d := fresh(t, leastWords)
	w := world{newModel(), map[int]model{}}
	for i := range 12 {
		put(t, c, w.now, fmt.Sprint("key", i), strings.Repeat("v", i*30))
		setScore(t, c, w.now, fmt.Sprint("m", i), float64(i%4))
	}
	_, e := c.Snap()
	must(t, e)
	w.snaps[1] = w.now.clone()
	return d, w
}

// W2: the power goes at each step of each call, and at some of the Opens behind it, whatever is kept: all that was answered OK stands, and of the call under way all or nothing.
func TestALossAtEachStep(t *testing.T) {
	d, before := begun(t)
	for _, a := range acts {
		after := before.clone()
		a.to(&after)
		undone, done := 0, 0
		for k := 0; ; k++ {
			x := d.Copy()
			c := opened(t, x)
			// What hangs on a pin alone is nobody's behind the loss.
			v, e := c.Pin()
			must(t, e)
			x.Fuse(k)
			if e = a.do(c); e == api.OK {
				mustTell(t, v, before.now)
				x.Fuse(-1)
				after.mustTell(t, c)
				break
			}
			if e != api.ErrDead || !c.Dead() {
				t.Fatal(a.name, k, e)
			}
			for n := 0; ; n++ {
				x.Power(k%2 == 0, kept(x, k+n))
				x.Fuse((k + n) * 5 % (40 + 30*n))
				if c, e = Open(x); e == api.OK {
					break
				}
				if e != api.ErrDead || c != nil {
					t.Fatal(a.name, k, n, e)
				}
			}
			x.Fuse(-1)
			if before.told(t, c) {
				undone++
				before.mustTell(t, c)
			} else {
				done++
				after.mustTell(t, c)
			}
		}
		if undone == 0 || done == 0 {
			t.Error(a.name, undone, done)
		}
		c := opened(t, d)
		must(t, a.do(c))
		before = after
		before.mustTell(t, c)
	}
}

// An Open is under way itself: of a device of noughts, and of one on which much is to be swept away.
func TestALossWithinOpen(t *testing.T) {
	swept, w := begun(t)
	c := opened(t, swept)
	put(t, c, w.now, "key3", strings.Repeat("pinned", 100))
	_, e := c.Pin()
	must(t, e)
	for i := range 12 {
		put(t, c, w.now, fmt.Sprint("key", i), strings.Repeat("w", 200+i))
		_, e := c.Unset(fmt.Sprint("m", i))
		must(t, e)
		delete(w.now.members, fmt.Sprint("m", i))
	}
	for i, d := range []*nvm.Device{device(t, leastWords), swept} {
		want := w
		if i == 0 {
			want = world{newModel(), map[int]model{}}
		}
		for k := 0; ; k++ {
			x := d.Copy()
			x.Fuse(k)
			c, e := Open(x)
			if e == api.OK {
				x.Fuse(-1)
				want.mustTell(t, c)
				if k == 0 {
					t.Error("nothing to do", i)
				}
				break
			}
			if e != api.ErrDead || c != nil {
				t.Fatal(i, k, e)
			}
			x.Power(k%3 == 0, kept(x, k))
			c = opened(t, x)
			want.mustTell(t, c)
			if k%5 == 0 {
				put(t, c, newModel(), "more", strings.Repeat("more", 9))
				mustBeSound(t, c)
			}
		}
	}
}

// No number is given twice, whatever fails.
func TestNumbersBehindLosses(t *testing.T) {
	c, d := fresh(t, leastWords)
	last := 0
	r := rand.New(rand.NewSource(6))
	for i := range 400 {
		d.Fuse(r.Intn(60))
		id, e := c.Snap()
		switch e {
		case api.OK:
			if id <= last {
				t.Fatal(id, last)
			}
			last = id
		case api.ErrMany:
		case api.ErrDead:
			if id != 0 {
				t.Fatal(id)
			}
			d.Power(i%2 == 0, kept(d, i))
			c = opened(t, d)
		default:
			t.Fatal(e)
		}
		d.Fuse(-1)
		l, e := c.Snaps()
		must(t, e)
		for _, id := range l {
			if id > last+1 {
				t.Fatal(l, last)
			}
		}
		if len(l) > 0 && l[len(l)-1] > last {
			// The Snap that died was done.
			last = l[len(l)-1]
		}
		if len(l) > 4 {
			must(t, c.Drop(l[r.Intn(len(l))]))
		}
	}
	if last < 30 {
		t.Error(last)
	}
}

// Losses again and again within a long run: each time all or nothing of the call under way.
func TestLongRunsWithLosses(t *testing.T) {
	for seed := range int64(6) {
		x := newRun(t, leastWords, seed, crowds["mixed"], 300)
		losses := 0
		for i := range 500 {
			l := []api.Op{x.op()}
			for x.r.Intn(3) == 0 && len(l) < 8 {
				l = append(l, x.op())
			}
			next, want := batched(x.now, l)
			if x.r.Intn(4) == 0 {
				x.d.Fuse(x.r.Intn(800))
			}
			e := x.c.Batch(l)
			x.d.Fuse(-1)
			switch {
			case e == api.OK && want == api.OK:
				x.now = next
			case e == api.ErrDead:
				losses++
				x.d.Power(x.r.Intn(2) == 0, kept(x.d, i))
				x.c = opened(t, x.d)
				clear(x.pins)
				if !(world{x.now, x.snaps}).told(t, x.c) {
					x.now = next
				}
				x.look()
			case e != want && e != api.ErrFull:
				t.Fatal(seed, i, e, want)
			}
			switch x.r.Intn(30) {
			case 0:
				x.snap()
			case 1:
				x.pin()
			case 2:
				x.drop()
			case 3:
				x.release()
			}
			if i%50 == 0 {
				x.look()
			}
		}
		x.look()
		if losses < 20 {
			t.Error(seed, losses)
		}
	}
}

// 16.8

// Whatever words stand on a device, every call ends and none panics.
func TestHostileWords(t *testing.T) {
	r := rand.New(rand.NewSource(8))
	d, w := begun(t)
	told := map[api.Errno]int{}
	for round := range 700 {
		x := d.Copy()
		c := opened(t, x)
		v, e := c.At(1)
		must(t, e)
		p, e := c.Pin()
		must(t, e)
		places := c.live()
		for range 1 + r.Intn(4) {
			i := 12400 + r.Intn(900)
			if r.Intn(3) > 0 {
				i = 12400 + places[r.Intn(len(places))] + r.Intn(32)
			}
			switch r.Intn(4) {
			case 0:
				x.Store(i, r.Uint64())
			case 1:
				x.Store(i, x.Load(i)^1<<r.Intn(64))
			case 2:
				x.Store(i, x.Load(12400+places[r.Intn(len(places))]))
			default:
				x.Store(i, uint64(places[r.Intn(len(places))]))
			}
		}
		calls := slices.Concat(onView(c.Now()), onView(v), onView(p), onCore(c, p))
		r.Shuffle(len(calls), func(i, k int) { calls[i], calls[k] = calls[k], calls[i] })
		for _, call := range calls {
			zero, e := call.f()
			if e != api.OK && !zero {
				t.Fatal(round, call.name, e)
			}
			told[e]++
		}
		c.Room()
		x.Power(true, nil)
		if c, e := Open(x); (c != nil) != (e == api.OK) || e != api.OK && e != api.ErrForm {
			t.Fatal(round, e)
		}
	}
	if told[api.OK] == 0 || told[api.ErrForm] == 0 || told[api.ErrDead] != 0 {
		t.Error(told)
	}
	w.mustTell(t, opened(t, d))
}

// What no layer says that it panics with is an error, too, and nothing of the call is done.
func TestOtherPanics(t *testing.T) {
	c, _, m := few(t)
	for _, v := range []any{"text", 5, nvm.Wrong{Word: 3}, fmt.Errorf("error"), nil} {
		if e := c.do(func() {
			c.setNow(state{})
			panic(v)
		}); e != api.ErrForm {
			t.Error(v, e)
		}
		mustTell(t, c.Now(), m)
	}
	mustBeSound(t, c)
}

// A device full of words that no store wrote.
func TestOpenOfAnything(t *testing.T) {
	r := rand.New(rand.NewSource(9))
	for round := range 60 {
		d := device(t, leastWords)
		for range 1 << (round % 16) {
			v := r.Uint64() >> r.Intn(64)
			d.Store(r.Intn(leastWords), v)
		}
		c, e := Open(d)
		if (c != nil) != (e == api.OK) || e != api.OK && e != api.ErrForm {
			t.Fatal(round, e)
		}
		if c != nil {
			for _, call := range append(onView(c.Now()), onCore(c, nil)...) {
				call.f()
			}
		}
	}
}
