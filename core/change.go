package core

import (
	"math"
	"slices"

	"reliquary/api"
	"reliquary/guard"
	"reliquary/num"
	"reliquary/rank"
	"reliquary/rec"
	"reliquary/tree"
)

// Put lets the key's value be a copy of value: ErrArg, ErrBig, ErrFull or ErrDead.
func (c *Core) Put(key string, value []byte) api.Errno {
	return c.Batch([]api.Op{{Kind: api.OPut, Key: key, Value: value}})
}

// Del takes the key away, and tells whether it was there: ErrDead.
func (c *Core) Del(key string) (bool, api.Errno) {
	return c.takenAway(api.Op{Kind: api.ODel, Key: key})
}

// Set lets the member's score be x: ErrArg, ErrNaN, ErrFull or ErrDead.
func (c *Core) Set(name string, x float64) api.Errno {
	return c.Batch([]api.Op{{Kind: api.OSet, Key: name, X: x}})
}

// Bump adds to the member's score, which is nought if it has none, and tells it: ErrArg, ErrNaN, ErrFull or ErrDead.
func (c *Core) Bump(name string, by float64) (float64, api.Errno) {
	return asked(c, func() float64 {
		return c.follow([]api.Op{{Kind: api.OBump, Key: name, X: by}})[0].X
	})
}

// Unset takes the member away, and tells whether it was there: ErrDead.
func (c *Core) Unset(name string) (bool, api.Errno) {
	return c.takenAway(api.Op{Kind: api.OUnset, Key: name})
}

// Batch does all ops in their order, or none: ErrArg, if there are none or too many; else the error of the first that can't be done, but ErrFull behind all others.
func (c *Core) Batch(l []api.Op) api.Errno {
	return c.do(func() {
		if len(l) < 1 || len(l) > api.MaxBatch {
			panic(api.ErrArg)
		}
		c.follow(l)
	})
}

func (c *Core) takenAway(op api.Op) (bool, api.Errno) {
	return asked(c, func() bool {
		was := c.now()
		c.follow([]api.Op{op})
		return c.now() != was
	})
}

// follow does what the ops come to, and tells that. It panics with what is wrong.
func (c *Core) follow(l []api.Op) []api.Op {
	was := c.now()
	plan := c.planned(was, l)
	e := guard.Errno(func() { c.setNow(c.done(was, plan)) })
	switch {
	case e == api.ErrBig:
		// The values are none too big: there is more to write than a transaction has room for.
		panic(api.ErrFull)
	case e != api.OK:
		panic(e)
	case c.now() != was && slices.ContainsFunc(plan, adds):
		c.mustHaveRoom()
	}
	return plan
}

// planned tells what the ops come to: a put, del, set or unset for each key and name that they tell of, what the last of them says. It panics with what is wrong with the first that is.
func (c *Core) planned(st state, l []api.Op) []api.Op {
	var plan []api.Op
	for _, op := range l {
		op = c.settled(st, plan, op)
		plan = slices.DeleteFunc(plan, func(x api.Op) bool { return meansSame(x, op) })
		plan = append(plan, op)
	}
	return plan
}

// settled is the op, if it may be, a bump as the set that it comes to behind those of the plan. It panics with what is wrong.
func (c *Core) settled(st state, plan []api.Op, op api.Op) api.Op {
	switch op.Kind {
	case api.OPut:
		mustBeName(op.Key)
		if len(op.Value) > api.MaxValue {
			panic(api.ErrBig)
		}
	case api.OSet:
		mustBeName(op.Key)
		mustBeNumber(op.X)
	case api.OBump:
		mustBeName(op.Key)
		mustBeNumber(op.X)
		op.Kind = api.OSet
		op.X = bumped(c.scoreBehind(st, plan, op), op.X)
	case api.ODel, api.OUnset:
	default:
		panic(api.ErrArg)
	}
	return op
}

// scoreBehind is the score of the op's member behind the ops of the plan; nought, if it has none.
func (c *Core) scoreBehind(st state, plan []api.Op, op api.Op) float64 {
	i := slices.IndexFunc(plan, func(x api.Op) bool { return meansSame(x, op) })
	switch {
	case i < 0:
		x, _ := rank.Get(c.s, st.members, op.Key)
		return x
	case plan[i].Kind == api.OUnset:
		return 0
	}
	return plan[i].X
}

func bumped(x, by float64) float64 {
	sum, e := num.Add(x, by)
	if e != api.OK {
		panic(e)
	}
	return sum
}

// done does the ops of a plan one after the other, and tells what stands then.
func (c *Core) done(st state, plan []api.Op) state {
	for _, op := range plan {
		switch op.Kind {
		case api.OPut:
			st = c.put(st, op.Key, op.Value)
		case api.ODel:
			st = c.del(st, op.Key)
		case api.OSet:
			st = c.ranked(st, rank.Set(c.s, c.h, st.members, op.Key, op.X))
		case api.OUnset:
			members, _ := rank.Unset(c.s, c.h, st.members, op.Key)
			st = c.ranked(st, members)
		}
	}
	return st
}

func (c *Core) put(st state, key string, value []byte) state {
	was, there := tree.Get(c.s, st.pairs, key)
	next := state{tree.Put(c.s, c.h, st.pairs, key, c.kept(value)), st.members}
	c.leave(st, next, c.pairNodes)
	if there {
		c.leaveValue(key, was)
	}
	return next
}

func (c *Core) del(st state, key string) state {
	was, there := tree.Get(c.s, st.pairs, key)
	if !there {
		return st
	}
	pairs, _ := tree.Del(c.s, c.h, st.pairs, key)
	next := state{pairs, st.members}
	c.leave(st, next, c.pairNodes)
	c.leaveValue(key, was)
	return next
}

func (c *Core) ranked(st state, members rank.Root) state {
	next := state{st.pairs, members}
	c.leave(st, next, c.memberNodes)
	return next
}

// leaveValue gives back a value that stood under a key, unless one of the states that are held has it yet.
func (c *Core) leaveValue(key string, w uint64) {
	at, is := recordOf(w)
	if !is {
		return
	}
	for _, st := range c.held() {
		if v, there := tree.Get(c.s, st.pairs, key); there && v == w {
			return
		}
	}
	rec.Drop(c.s, c.h, at)
}

func adds(op api.Op) bool {
	return op.Kind == api.OPut || op.Kind == api.OSet
}

// meansSame tells whether both ops of a plan are about the same key, or about the same member.
func meansSame(a, b api.Op) bool {
	return a.Key == b.Key && isOfPairs(a) == isOfPairs(b)
}

func isOfPairs(op api.Op) bool {
	return op.Kind == api.OPut || op.Kind == api.ODel
}

func mustBeName(s string) {
	if len(s) < 1 || len(s) > api.MaxName {
		panic(api.ErrArg)
	}
}

func mustBeNumber(x float64) {
	if math.IsNaN(x) {
		panic(api.ErrNaN)
	}
}
