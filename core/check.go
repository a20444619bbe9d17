package core

import (
	"math"
	"slices"

	"reliquary/api"
	"reliquary/ext"
	"reliquary/mark"
	"reliquary/num"
	"reliquary/rank"
	"reliquary/tree"
)

// Check answers ErrForm, if a piece is taken that nothing hangs on, or something hangs on none, or a part is not as it should be: ErrDead.
func (c *Core) Check() api.Errno {
	e := c.do(c.mustBeSound)
	if e != api.OK && e != api.ErrDead {
		return api.ErrForm
	}
	return e
}

// mustBeSound panics with some api.Errno, if anything is not as it should be.
func (c *Core) mustBeSound() {
	mustBe(c.h.Check() == api.OK)
	mustBe(ext.Check(c.s, c.h.Root(indexAt)) == api.OK)
	c.mustCount()
	for _, st := range append(c.held(), c.now()) {
		c.mustBeWhole(st)
	}
	gone, wild := mark.Split(c.h.Pieces(), c.live())
	mustBe(len(gone) == 0 && len(wild) == 0)
}

// mustCount panics with api.ErrForm, unless the numbers of all snapshots rise, ahead of the next one, and the index has no others.
func (c *Core) mustCount() {
	l := c.numbers()
	next, there := c.inIndex(nextKey)
	mustBe(there && len(l) == ext.Len(c.s, c.h.Root(indexAt))-1)
	l = append(l, int(next))
	rising, once := mark.Once(l)
	mustBe(once && slices.Equal(l, rising))
}

// mustBeWhole panics with api.ErrForm, unless the state's trees are sound, its keys and values are such as may be, no two pairs have one record, and both trees of its members tell the same.
func (c *Core) mustBeWhole(st state) {
	for _, root := range st.trees() {
		mustBe(tree.Check(c.s, root) == api.OK)
	}
	for p := range tree.Walk(c.s, st.pairs, "") {
		mustBe(len(p.Key) <= api.MaxName && len(c.value(p.V)) <= api.MaxValue)
	}
	_, once := mark.Once(c.records(st))
	mustBe(once)
	members := rank.Range(c.s, st.members, math.Inf(-1), math.Inf(1), math.MaxInt)
	mustBe(len(members) == rank.Len(c.s, st.members))
	for _, m := range members {
		x, there := rank.Get(c.s, st.members, m.Name)
		mustBe(there && num.Same(x, m.Score))
	}
}
