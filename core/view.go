package core

import (
	"reliquary/api"
	"reliquary/calc"
	"reliquary/rank"
	"reliquary/tree"
)

// View tells of what stands, or stood.
type View struct {
	c  *Core
	of func() state // panics with api.ErrNone, if it is gone
}

// found is what was looked for, and whether it is there.
type found[T any] struct {
	what  T
	there bool
}

// Now gives a View of what stands, at each of its calls anew.
func (c *Core) Now() *View {
	return &View{c, c.now}
}

// Get tells the value of a key, and whether it is there: ErrNone or ErrDead.
func (v *View) Get(key string) ([]byte, bool, api.Errno) {
	f, e := seen(v, func(st state) found[[]byte] {
		w, there := tree.Get(v.c.s, st.pairs, key)
		if !there {
			return found[[]byte]{}
		}
		return found[[]byte]{v.c.value(w), true}
	})
	return f.what, f.there, e
}

// Scan tells the first n pairs, 1,000 at most, whose key is not below lo and below hi; an empty hi is no end: ErrNone or ErrDead.
func (v *View) Scan(lo, hi string, n int) ([]api.Pair, api.Errno) {
	return seen(v, func(st state) []api.Pair {
		var l []api.Pair
		for _, p := range tree.Range(v.c.s, st.pairs, lo, hi, min(n, api.MaxScan)) {
			l = append(l, api.Pair{Key: p.Key, Value: v.c.value(p.V)})
		}
		return l
	})
}

// Score tells a member's score, and whether it is there: ErrNone or ErrDead.
func (v *View) Score(name string) (float64, bool, api.Errno) {
	f, e := seen(v, func(st state) found[float64] {
		x, there := rank.Get(v.c.s, st.members, name)
		return found[float64]{x, there}
	})
	return f.what, f.there, e
}

// Range tells the first n members, 1,000 at most, whose score is not below lo and not above hi, by score, then by name: ErrNone or ErrDead.
func (v *View) Range(lo, hi float64, n int) ([]api.Scored, api.Errno) {
	return seen(v, func(st state) []api.Scored {
		var l []api.Scored
		for _, m := range rank.Range(v.c.s, st.members, lo, hi, min(n, api.MaxScan)) {
			l = append(l, api.Scored{Name: m.Name, Score: m.Score})
		}
		return l
	})
}

// Place tells how many members stand ahead of one, and whether it is there: ErrNone or ErrDead.
func (v *View) Place(name string) (int, bool, api.Errno) {
	f, e := seen(v, func(st state) found[int] {
		n, there := rank.Place(v.c.s, st.members, name)
		return found[int]{n, there}
	})
	return f.what, f.there, e
}

// Spread tells of all scores that are not below lo and not above hi how many they are, the least, the most, their sum and their mean: ErrNone or ErrDead.
func (v *View) Spread(lo, hi float64) (api.Spread, api.Errno) {
	return seen(v, func(st state) api.Spread {
		var l []float64
		for _, m := range rank.Range(v.c.s, st.members, lo, hi, rank.Len(v.c.s, st.members)) {
			l = append(l, m.Score)
		}
		s := api.Spread{N: len(l)}
		s.Least, s.Most, s.Sum, s.Mean = calc.Spread(l)
		return s
	})
}

// Counts tells how many pairs there are, and how many members: ErrNone or ErrDead.
func (v *View) Counts() (pairs, members int, e api.Errno) {
	l, e := seen(v, func(st state) [2]int {
		return [2]int{tree.Len(v.c.s, st.pairs), rank.Len(v.c.s, st.members)}
	})
	return l[0], l[1], e
}

// seen tells what f tells of what the View is of, and nothing beside an error.
func seen[T any](v *View, f func(st state) T) (T, api.Errno) {
	return asked(v.c, func() T { return f(v.of()) })
}
