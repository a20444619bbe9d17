package core

import (
	"fmt"
	"maps"
	"math"
	"math/rand"
	"slices"
	"strings"
	"testing"

	"reliquary/api"
	"reliquary/ext"
	"reliquary/order"
	"reliquary/rec"
	"reliquary/tree"
)

// 16.5

// taken is how many words are.
func taken(c *Core) int {
	free, all := c.Room()
	return all - free
}

// W3: each thing gives back just the room that it took.
func TestRoom(t *testing.T) {
	c, d := fresh(t, leastWords)
	free, all := c.Room()
	for range 3 {
		put := func() {
			for i := range 30 {
				must(t, c.Put(fmt.Sprint("k", i), counted(i*30, i)))
				must(t, c.Set(fmt.Sprint("m", i), float64(i)))
			}
		}
		put()
		full := taken(c)
		put()
		if taken(c) != full {
			t.Error("the same once more", taken(c), full)
		}
		id, e := c.Snap()
		must(t, e)
		v, e := c.Pin()
		must(t, e)
		if n := taken(c); n != full+nodeWords {
			t.Error("a snapshot and a pin", n, full)
		}
		for i := range 30 {
			_, e := c.Del(fmt.Sprint("k", i))
			must(t, e)
			_, e = c.Unset(fmt.Sprint("m", i))
			must(t, e)
		}
		if n := taken(c); n != full+nodeWords {
			t.Error("held by both", n, full)
		}
		must(t, c.Drop(id))
		if n := taken(c); n != full {
			t.Error("held by the pin", n, full)
		}
		must(t, c.Release(v))
		if now, same := c.Room(); now != free || same != all {
			t.Error(now, same, free, all)
		}
		mustBeSound(t, c)
		c = opened(t, d)
	}
}

// All pieces but those of the index are equally long, on which the room that is kept for what takes away stands.
func TestPiecesAreEquallyLong(t *testing.T) {
	c, _, m := few(t)
	for i := range 200 {
		put(t, c, m, fmt.Sprint("k", i), strings.Repeat("v", i*i%500))
		setScore(t, c, m, fmt.Sprint("m", i), float64(i))
		if i%9 == 0 {
			_, e := c.Del(fmt.Sprint("k", i/2))
			must(t, e)
		}
	}
	must(t, c.s.Do(func() {
		index := ext.Pieces(c.s, c.h, c.h.Root(indexAt))
		words := 0
		for _, at := range c.h.Pieces() {
			if slices.Contains(index, at) {
				words += c.h.Size(at)
			} else if c.h.Size(at) != nodeWords {
				t.Error(at, c.h.Size(at))
			}
		}
		if len(index) != 2 || words != 72 {
			t.Error(index, words)
		}
		// What is free but for the gaps has room for such pieces.
		n := 0
		for c.h.Free() > gapWords {
			c.h.Take(nodeWords)
			n++
		}
		panic(api.ErrNone)
	})^api.ErrNone)
}

// The index never needs more room, however large the numbers.
func TestTheIndexStaysSmall(t *testing.T) {
	for _, from := range []uint64{1, 95, 9995, 999999995, 1<<31 - 20} {
		c, d := fresh(t, leastWords)
		must(t, c.s.Do(func() { c.setInIndex(nextKey, from) }))
		var have []int
		for i := range 20 {
			if len(have) == 8 {
				must(t, c.Drop(have[i%8]))
				have = slices.Delete(have, i%8, i%8+1)
			}
			id, e := c.Snap()
			must(t, e)
			if id != int(from)+i {
				t.Error(id, from, i)
			}
			have = append(have, id)
			if i%4 == 0 {
				c = opened(t, d)
			}
			if l, e := c.Snaps(); !slices.Equal(l, have) || e != api.OK {
				t.Error(l, have, e)
			}
			must(t, c.s.Do(func() {
				if l := ext.Pieces(c.s, c.h, c.h.Root(indexAt)); len(l) != 2 {
					t.Error(l)
				}
			}))
		}
		mustBeSound(t, c)
	}
}

// crowds are keys of which trees become large, or thin, or high.
var crowds = map[string]func(r *rand.Rand) string{
	"one":   func(r *rand.Rand) string { return string([]byte{byte(r.Intn(256))}) },
	"short": func(r *rand.Rand) string { return fmt.Sprintf("%x", r.Intn(4096)) },
	"mid":   func(r *rand.Rand) string { return strings.Repeat("k", 40) + fmt.Sprintf("%04x", r.Intn(65536)) },
	"last":  func(r *rand.Rand) string { return strings.Repeat("k", 62) + fmt.Sprintf("%02x", r.Intn(256)) },
	"mixed": func(r *rand.Rand) string { return strings.Repeat("m", r.Intn(60)) + fmt.Sprintf("%x", r.Intn(4096)) },
}

// crowd is a run that fills a store, and thins it out again.
type crowd struct {
	*run
	membersOnly, oneScore bool
}

func (x *crowd) op() api.Op {
	op := x.run.op()
	if x.membersOnly && op.Kind <= api.ODel {
		op.Kind += 2
	}
	if x.oneScore {
		op.X = 1
		if op.Kind == api.OBump {
			op.Kind = api.OSet
		}
	}
	return op
}

// fill adds until several calls were refused, with snapshots and pins now and then.
func (x *crowd) fill() {
	full := x.full + 5
	for i := 0; i < 1200 && x.full < full; i++ {
		if op := x.op(); adding([]api.Op{op}) {
			x.batch([]api.Op{op})
		}
		switch x.r.Intn(150) {
		case 0:
			x.snap()
		case 1:
			x.pin()
		}
		x.mustBeAbleToTakeAway()
	}
}

// takeAways are ops that take away all that stands but each so manieth thing, in an order.
func (x *crowd) takeAways(but int, order int) []api.Op {
	var l []api.Op
	for _, p := range x.now.scan("", "", 1000) {
		l = append(l, api.Op{Kind: api.ODel, Key: p.Key})
	}
	for _, m := range x.now.within(-inf, inf) {
		l = append(l, api.Op{Kind: api.OUnset, Key: m.Name})
	}
	i := 0
	l = slices.DeleteFunc(l, func(api.Op) bool { i++; return but > 1 && i%but == 0 })
	switch order {
	case 0:
		x.r.Shuffle(len(l), func(i, k int) { l[i], l[k] = l[k], l[i] })
	case 1:
		slices.Reverse(l)
	}
	return l
}

// thinUntil takes away one thing after the other until it is enough.
func (x *crowd) thinUntil(enough func() bool) {
	for _, op := range x.takeAways(x.r.Intn(5), x.r.Intn(3)) {
		if enough() {
			return
		}
		x.batch([]api.Op{op})
		x.mustBeAbleToTakeAway()
	}
}

// mustBeAbleToTakeAway checks that there is room for what an Unset may take: two trees' changes, of 1,200 words each.
func (x *crowd) mustBeAbleToTakeAway() {
	if free, _ := x.c.Room(); free < 2400 {
		x.t.Fatal("free", free)
	}
}

// hold fills the store with snapshots or pins: as soon as there is room for one more.
func (x *crowd) hold() {
	if x.r.Intn(2) == 0 {
		for len(x.snaps) > 7 {
			x.drop()
		}
		n := len(x.snaps)
		x.thinUntil(func() bool { x.snap(); return len(x.snaps) > n })
		return
	}
	for len(x.pins) > 7 {
		x.release()
	}
	n := len(x.pins)
	x.thinUntil(func() bool { x.pin(); return len(x.pins) > n })
}

// little thins the store out until what stands counts little, and goes on where it may not be full.
func (x *crowd) little() {
	for len(x.snaps) > 1 {
		x.drop()
	}
	for len(x.pins) > 1 {
		x.release()
	}
	x.thinUntil(func() bool { return x.fits(0) })
	full := x.full
	for range 150 {
		var l []api.Op
		for range 1 + x.r.Intn(8) {
			l = append(l, x.op())
		}
		if next, e := batched(x.now, l); e != api.OK || x.fits(next.bytes()-x.now.bytes()) {
			x.batch(l)
		}
		switch n := x.r.Intn(60); {
		case n == 0 && x.fits(256+x.now.bytes()):
			x.snap()
		case n == 1 && x.fits(256+x.now.bytes()):
			x.pin()
		case n == 2:
			x.drop()
		case n == 3:
			x.release()
		}
	}
	if x.fits(0) && x.full != full {
		x.t.Fatal("full")
	}
}

// emptied takes all away, however full the store is, and whatever is held.
func (x *crowd) emptied() {
	for l := x.takeAways(0, x.r.Intn(3)); len(l) > 0; l = x.takeAways(0, x.r.Intn(3)) {
		for len(l) > 0 {
			n := min(len(l), 1+x.r.Intn(8))
			x.batch(l[:n])
			x.mustBeAbleToTakeAway()
			l = l[n:]
		}
	}
	x.look()
	for len(x.snaps) > 0 {
		x.drop()
	}
	for len(x.pins) > 0 {
		x.release()
	}
}

// W10: no full store as long as what stands counts little; what takes away is always done. W3: all room comes back.
func TestCrowds(t *testing.T) {
	for _, name := range slices.Sorted(maps.Keys(crowds)) {
		for seed := range int64(4) {
			words := leastWords
			if seed == 3 {
				words = 44000
			}
			x := &crowd{run: newRun(t, words, seed, crowds[name], []int{0, 8, 300, 1024}[seed])}
			x.membersOnly, x.oneScore = seed%2 == 0, seed < 2
			free, _ := x.c.Room()
			for i := range 3 {
				x.fill()
				if i == 1 {
					x.little()
				} else {
					x.hold()
				}
				x.look()
			}
			x.emptied()
			x.look()
			if now, _ := x.c.Room(); now != free {
				t.Error(name, seed, now, free)
			}
			if x.full == 0 && name != "one" {
				t.Error(name, seed, "never full")
			}
			if t.Failed() {
				t.Fatal(name, seed)
			}
		}
	}
}

// A store that is filled to the brim, held, and emptied one by one, whichever goes first.
func TestEmptiedHoweverFull(t *testing.T) {
	for _, held := range []bool{false, true} {
		for order := range 3 {
			for _, long := range []int{0, 1024} {
				x := &crowd{run: newRun(t, leastWords, int64(order), crowds["mid"], long)}
				free, _ := x.c.Room()
				for i := 0; x.full == 0; i++ {
					op := api.Op{Kind: api.OPut, Key: fmt.Sprintf("%040d", i), Value: make([]byte, long)}
					if long == 0 && i%3 > 0 {
						op = api.Op{Kind: api.OSet, Key: op.Key, X: float64(i % 7)}
					}
					x.batch([]api.Op{op})
				}
				if held {
					x.thinUntil(func() bool { x.pin(); return len(x.pins) == 1 })
					x.thinUntil(func() bool { x.snap(); return len(x.snaps) == 1 })
				}
				mustBeSound(t, x.c)
				for _, op := range x.takeAways(0, order) {
					x.batch([]api.Op{op})
				}
				x.look()
				x.emptied()
				if now, _ := x.c.Room(); now != free {
					t.Error(held, order, long, now, free)
				}
			}
		}
	}
}

// Only what adds finds a store full; it tells so behind all else that may be wrong, and has done nothing.
func TestWhoFindsItFull(t *testing.T) {
	c, d := fresh(t, leastWords)
	m := newModel()
	setScore(t, c, m, "first", 1)
	for i := 0; ; i++ {
		key := fmt.Sprint(i)
		if e := c.Put(key, make([]byte, 1024)); e != api.OK {
			if e != api.ErrFull {
				t.Fatal(e)
			}
			break
		}
		m.pairs[key] = string(make([]byte, 1024))
	}
	for i := 0; ; i++ {
		name := fmt.Sprint(i, strings.Repeat("m", 50))
		if e := c.Set(name, 1); e != api.OK {
			if e != api.ErrFull {
				t.Fatal(e)
			}
			break
		}
		m.members[name] = 1
	}
	before := image(d)
	big := api.Op{Kind: api.OPut, Key: "new", Value: make([]byte, 1000)}
	for want, l := range map[api.Errno][]api.Errno{
		api.ErrFull: {c.Put("new", make([]byte, 1024)), c.Set("new name", 2), c.Batch([]api.Op{big, {Kind: api.ODel, Key: "new name"}})},
		api.ErrArg:  {c.Put("", make([]byte, 1024)), c.Batch([]api.Op{big, {Kind: 6}}), c.Batch(slices.Repeat([]api.Op{big}, 9))},
		api.ErrBig:  {c.Put("new", make([]byte, 1025)), c.Batch([]api.Op{big, {Kind: api.OPut, Key: "a", Value: make([]byte, 1025)}})},
		api.ErrNaN:  {c.Set("new name", nan), c.Batch([]api.Op{big, {Kind: api.OSet, Key: "a", X: inf}, {Kind: api.OBump, Key: "a", X: -inf}})},
		api.ErrNone: {c.Drop(1), c.Release(nil)},
	} {
		for i, e := range l {
			if e != want {
				t.Error(want, i, e)
			}
		}
	}
	if x, e := c.Bump("new name", 1); x != 0 || e != api.ErrFull {
		t.Error(x, e)
	}
	if id, e := c.Snap(); id != 0 || e != api.ErrFull {
		t.Error(id, e)
	}
	if v, e := c.Pin(); v != nil || e != api.ErrFull {
		t.Error(v, e)
	}
	if !slices.Equal(before, image(d)) {
		t.Error("a refused call changed words")
	}
	// What is the same as it was, and what comes to nothing, needs no room.
	must(t, c.Set("first", 1))
	must(t, c.Batch([]api.Op{big, {Kind: api.ODel, Key: "new"}}))
	mustTell(t, c.Now(), m)
	mustBeSound(t, c)
	// No number was used up.
	for len(m.pairs) > 50 {
		key := m.scan("", "", 1)[0].Key
		if was, e := c.Del(key); !was || e != api.OK {
			t.Fatal(was, e)
		}
		delete(m.pairs, key)
	}
	if id, e := c.Snap(); id != 1 || e != api.OK {
		t.Error(id, e)
	}
	mustTell(t, c.Now(), m)
}

// What takes away asks for no more room than it takes, wherever the rest of it went.
func TestTakingAwayKeepsNoRoom(t *testing.T) {
	c, _, m := few(t)
	for i := range 100 {
		put(t, c, m, fmt.Sprint("key", i), "few")
		setScore(t, c, m, fmt.Sprint("name", i), float64(i))
	}
	must(t, c.s.Do(func() {
		for c.h.Free() > 800 {
			c.h.Take(nodeWords)
		}
	}))
	for want, l := range map[api.Errno][]api.Errno{
		api.ErrFull: {c.Put("a", nil), c.Set("m", 7), c.Batch([]api.Op{{Kind: api.ODel, Key: "a"}, {Kind: api.OBump, Key: "m", X: 7}})},
		api.OK:      {c.Batch([]api.Op{{Kind: api.ODel, Key: "a"}, {Kind: api.OUnset, Key: "m"}})},
	} {
		for i, e := range l {
			if e != want {
				t.Error(want, i, e)
			}
		}
	}
	delete(m.pairs, "a")
	delete(m.members, "m")
	mustTell(t, c.Now(), m)
	for _, f := range []func(string) (bool, api.Errno){c.Del, c.Unset} {
		for _, key := range []string{"b", "key7", "n", "name9"} {
			if _, e := f(key); e != api.OK {
				t.Error(key, e)
			}
		}
	}
	must(t, c.Drop(1))
	must(t, c.Release(c.pins[0].view))
}

// What is pinned or snapped too often is ErrMany ahead of ErrFull.
func TestManyAheadOfFull(t *testing.T) {
	c, _ := fresh(t, leastWords)
	for range 8 {
		_, e := c.Snap()
		must(t, e)
		_, e = c.Pin()
		must(t, e)
	}
	for i := 0; ; i++ {
		if e := c.Put(fmt.Sprint(i), make([]byte, 1024)); e != api.OK {
			break
		}
	}
	if id, e := c.Snap(); id != 0 || e != api.ErrMany {
		t.Error(id, e)
	}
	if v, e := c.Pin(); v != nil || e != api.ErrMany {
		t.Error(v, e)
	}
	must(t, c.Drop(5))
	if id, e := c.Snap(); id != 0 || e != api.ErrFull {
		t.Error(id, e)
	}
	mustBeSound(t, c)
}

// The greatest batches fit a transaction, on the greatest device.
func TestGreatBatches(t *testing.T) {
	c, _ := fresh(t, 65536)
	m := newModel()
	name := func(i int) string { return strings.Repeat("k", 60) + fmt.Sprintf("%04d", i) }
	for i := range 300 {
		setScore(t, c, m, name(i), 1)
	}
	for i := range 300 {
		if i%3 > 0 {
			_, e := c.Unset(name(i))
			must(t, e)
			delete(m.members, name(i))
		}
	}
	for i := range 60 {
		var l []api.Op
		for k := range 8 {
			op := api.Op{Kind: api.OSet, Key: name((i*5 + k*41) % 330), X: float64((i + k) % 3)}
			switch {
			case i%3 == 1:
				op.Kind = api.OUnset
			case i%3 == 2 && k%2 == 0:
				op = api.Op{Kind: api.OPut, Key: op.Key, Value: counted(1024, i+k)}
			}
			l = append(l, op)
		}
		next, e := batched(m, l)
		must(t, e)
		must(t, c.Batch(l))
		m = next
	}
	mustTell(t, c.Now(), m)
	mustBeSound(t, c)
}

// furnished is a Core with many pairs and members, the snapshots 1 and 2, and values in two pieces under key8 and key9.
func furnished(t *testing.T) (*Core, model) {
	t.Helper()
	c, _, m := few(t)
	for i := range 60 {
		put(t, c, m, fmt.Sprint("key", i), strings.Repeat("v", 40+i))
		setScore(t, c, m, fmt.Sprint("name", i), float64(i))
	}
	_, e := c.Snap()
	must(t, e)
	put(t, c, m, "key8", strings.Repeat("w", 300))
	put(t, c, m, "key9", strings.Repeat("w", 300))
	mustBeSound(t, c)
	return c, m
}

// placed is the place of the value of a key.
func placed(c *Core, key string) int {
	w, _ := tree.Get(c.s, c.now().pairs, key)
	return int(w)
}

// change makes something else stand, and gives back the nodes that hang on nothing then.
func change(c *Core, f func(st *state)) {
	was := c.now()
	next := was
	f(&next)
	c.setNow(next)
	c.leave(was, next, c.nodes)
}

// swap lets another word stand for key9, whose value goes.
func swap(c *Core, v uint64) {
	rec.Drop(c.s, c.h, placed(c, "key9"))
	change(c, func(st *state) { st.pairs = tree.Put(c.s, c.h, st.pairs, "key9", v) })
}

// pairsWith puts a key into the tree of pairs, scoresWith one into that of the scores, namesWith one into that of the names.
func pairsWith(c *Core, key string) {
	change(c, func(st *state) { st.pairs = tree.Put(c.s, c.h, st.pairs, key, 1<<fewShift) })
}

func scoresWith(c *Core, key string) {
	change(c, func(st *state) { st.members.ByScore = tree.Put(c.s, c.h, st.members.ByScore, key, 0) })
}

func namesWith(c *Core, key string, v uint64) {
	change(c, func(st *state) { st.members.ByName = tree.Put(c.s, c.h, st.members.ByName, key, v) })
}

// A batch that is too great for what is left of a transaction finds the store full; that is not what its values are.
func TestATransactionThatIsTooGreat(t *testing.T) {
	c, _, m := few(t)
	l := []api.Op{{Kind: api.OPut, Key: "new", Value: make([]byte, 1024)}, {Kind: api.OSet, Key: "new", X: 1}}
	told := map[api.Errno]int{}
	for left := 0; left < 500; left += 10 {
		e := c.do(func() {
			for i := range api.MaxWrites - left {
				c.s.Put(c.s.Size()-1-i, c.s.Load(c.s.Size()-1-i))
			}
			c.follow(l)
			panic(api.ErrNone)
		})
		told[e]++
		mustTell(t, c.Now(), m)
	}
	if told[api.ErrFull] < 10 || told[api.ErrNone] < 5 || len(told) != 2 {
		t.Error(told)
	}
}

// A piece that nothing hangs on, one that is missing, and whatever a part's Check tells, is seen.
func TestCheck(t *testing.T) {
	for name, f := range map[string]func(c *Core){
		"one piece more":       func(c *Core) { c.h.Take(32) },
		"a small one more":     func(c *Core) { c.h.Take(1) },
		"a record more":        func(c *Core) { rec.Make(c.s, c.h, []byte("more")) },
		"a tree more":          func(c *Core) { tree.Put(c.s, c.h, 0, "a", 1) },
		"a value is gone":      func(c *Core) { c.h.Give(placed(c, "key9")) },
		"a value's part":       func(c *Core) { c.h.Give(rec.Pieces(c.s, c.h, placed(c, "key9"))[1]) },
		"a root is gone":       func(c *Core) { c.h.Give(int(c.now().pairs)) },
		"a node is gone":       func(c *Core) { c.h.Give(c.memberNodes(c.now())[0]) },
		"the index is gone":    func(c *Core) { c.h.Give(int(c.h.Root(indexAt))) },
		"no pairs":             func(c *Core) { c.h.SetRoot(treesAt, 0) },
		"other pairs":          func(c *Core) { c.h.SetRoot(treesAt, c.h.Root(treesAt+1)) },
		"no names":             func(c *Core) { c.h.SetRoot(treesAt+1, 0) },
		"no scores":            func(c *Core) { c.h.SetRoot(treesAt+2, 0) },
		"no index":             func(c *Core) { c.h.SetRoot(indexAt, 0) },
		"another index":        func(c *Core) { c.h.SetRoot(indexAt, c.h.Root(treesAt)) },
		"a number more":        func(c *Core) { c.h.SetRoot(numbersAt+5, 77) },
		"a number less":        func(c *Core) { c.h.SetRoot(numbersAt, 0) },
		"a number twice":       func(c *Core) { c.h.SetRoot(numbersAt+1, c.h.Root(numbersAt)) },
		"numbers fall":         func(c *Core) { c.setNumbers([]int{2, 1}) },
		"a snapshot more":      func(c *Core) { c.setInIndex("9", uint64(placed(c, "key8"))) },
		"a next one that is":   func(c *Core) { c.setInIndex(nextKey, 2) },
		"no next one":          func(c *Core) { c.dropFromIndex(nextKey) },
		"a snapshot elsewhere": func(c *Core) { c.setInIndex("2", uint64(placed(c, "key8"))) },
		"a key that is not counted": func(c *Core) {
			c.setInIndex("77", 1)
			at := int(c.h.Root(indexAt)) + 1
			c.s.Put(at, c.s.Load(at)-1)
		},
		"a node's wrong count": func(c *Core) { at := int(c.now().pairs) + 1; c.s.Put(at, c.s.Load(at)+1<<32) },
		"a heap's own word":    func(c *Core) { c.s.Put(1, c.s.Load(1)-8) },
		"a heap's bit":         func(c *Core) { c.s.Put(20, c.s.Load(20)^1<<40) },
		"no such value":        func(c *Core) { swap(c, 9<<fewShift) },
		"a value of none":      func(c *Core) { swap(c, 0) },
		"ends in no noughts":   func(c *Core) { swap(c, 2<<fewShift|0x100) },
		"none, but with bytes": func(c *Core) { swap(c, 1<<fewShift|1) },
		"a value twice":        func(c *Core) { swap(c, uint64(placed(c, "key8"))) },
		"a value too long":     func(c *Core) { swap(c, uint64(rec.Make(c.s, c.h, make([]byte, 1025)))) },
		"a key too long":       func(c *Core) { pairsWith(c, strings.Repeat("k", 65)) },
		"a score twice":        func(c *Core) { scoresWith(c, order.Key(9.5, "name5")) },
		"another score":        func(c *Core) { namesWith(c, "name5", 0) },
		"no number":            func(c *Core) { namesWith(c, "name5", math.MaxUint64) },
		"a name more":          func(c *Core) { namesWith(c, "name77", 0) },
	} {
		c, _ := furnished(t)
		must(t, c.s.Do(func() { f(c) }))
		if e := c.Check(); e != api.ErrForm {
			t.Error(name, e)
		}
	}
}
