package core

import (
	"slices"
	"strconv"

	"reliquary/api"
	"reliquary/rec"
	"reliquary/words"
)

// nextKey is what the number of the next snapshot stands under in the index, where each snapshot's record stands under its number.
const nextKey = "next"

// pin is a View that was pinned, and what it tells of. Pins are in memory alone: a loss of power takes them away.
type pin struct {
	view *View
	st   state
}

// Snap gives what stands a number, and tells it: ErrMany, ErrFull or ErrDead.
func (c *Core) Snap() (int, api.Errno) {
	return asked(c, func() int {
		numbers := c.numbers()
		if len(numbers) == api.MaxSnaps {
			panic(api.ErrMany)
		}
		next, there := c.inIndex(nextKey)
		mustBe(there)
		n := int(next)
		c.setInIndex(nextKey, next+1)
		c.setInIndex(strconv.Itoa(n), uint64(rec.Make(c.s, c.h, c.now().packed())))
		c.setNumbers(append(numbers, n))
		c.mustHaveRoom()
		return n
	})
}

// At gives a View of the snapshot of a number, until it is dropped: ErrNone or ErrDead.
func (c *Core) At(id int) (*View, api.Errno) {
	of := func() state {
		_, st := c.snapshot(id)
		return st
	}
	if _, e := asked(c, of); e != api.OK {
		return nil, e
	}
	return &View{c, of}, api.OK
}

// Drop takes the snapshot of a number away: ErrNone or ErrDead.
func (c *Core) Drop(id int) api.Errno {
	return c.do(func() {
		at, st := c.snapshot(id)
		c.dropFromIndex(strconv.Itoa(id))
		c.setNumbers(slices.DeleteFunc(c.numbers(), func(n int) bool { return n == id }))
		rec.Drop(c.s, c.h, at)
		c.leave(st, c.now(), c.pieces)
	})
}

// Snaps tells the numbers of all snapshots, rising: ErrDead.
func (c *Core) Snaps() ([]int, api.Errno) {
	return asked(c, c.numbers)
}

// Pin gives a View of what stands now, until it is released: ErrMany, ErrFull or ErrDead.
func (c *Core) Pin() (*View, api.Errno) {
	v := &View{c: c}
	v.of = func() state { return c.pinned(v).st }
	e := c.repinned(func() {
		if len(c.pins) == api.MaxSnaps {
			panic(api.ErrMany)
		}
		c.pins = append(slices.Clone(c.pins), pin{v, c.now()})
		c.mustHaveRoom()
	})
	if e != api.OK {
		return nil, e
	}
	return v, api.OK
}

// Release lets a pinned View go: ErrNone or ErrDead.
func (c *Core) Release(v *View) api.Errno {
	return c.repinned(func() {
		p := c.pinned(v)
		c.pins = slices.DeleteFunc(slices.Clone(c.pins), func(q pin) bool { return q == p })
		c.leave(p.st, c.now(), c.pieces)
	})
}

// repinned does f, which may put other pins in the place of those that are. If it can't be done they stay.
func (c *Core) repinned(f func()) api.Errno {
	was := c.pins
	e := c.do(f)
	if e != api.OK {
		c.pins = was
	}
	return e
}

// pinned is the pin of a View. It panics with api.ErrNone, if there is none.
func (c *Core) pinned(v *View) pin {
	for _, p := range c.pins {
		if p.view == v {
			return p
		}
	}
	panic(api.ErrNone)
}

// held are the states of all snapshots and pins.
func (c *Core) held() []state {
	var l []state
	for _, n := range c.numbers() {
		_, st := c.snapshot(n)
		l = append(l, st)
	}
	for _, p := range c.pins {
		l = append(l, p.st)
	}
	return l
}

// snapshot tells the place of the record of a snapshot, and its state. It panics with api.ErrNone, if there is none of that number.
func (c *Core) snapshot(id int) (int, state) {
	if !slices.Contains(c.numbers(), id) {
		panic(api.ErrNone)
	}
	at, there := c.inIndex(strconv.Itoa(id))
	mustBe(there)
	return int(at), unpacked(rec.Read(c.s, c.h, int(at)))
}

// numbers are those of all snapshots, rising.
func (c *Core) numbers() []int {
	var l []int
	for i := range api.MaxSnaps {
		if n := c.h.Root(numbersAt + i); n != 0 {
			l = append(l, int(n))
		}
	}
	return l
}

func (c *Core) setNumbers(l []int) {
	for i := range api.MaxSnaps {
		n := 0
		if i < len(l) {
			n = l[i]
		}
		c.h.SetRoot(numbersAt+i, uint64(n))
	}
}

// packed is the state as bytes.
func (st state) packed() []byte {
	var b []byte
	for _, root := range st.trees() {
		b = append(b, words.Uvar(root)...)
	}
	return b
}

// unpacked is the state whose bytes b is. It panics with api.ErrForm, if there is none.
func unpacked(b []byte) state {
	var roots [3]uint64
	for i := range roots {
		x, used, e := words.Var(b)
		mustBe(e == api.OK)
		roots[i], b = x, b[used:]
	}
	mustBe(len(b) == 0)
	return stateOf(roots[0], roots[1], roots[2])
}
