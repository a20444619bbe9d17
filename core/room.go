package core

import (
	"slices"

	"reliquary/api"
	"reliquary/ext"
	"reliquary/mark"
	"reliquary/rank"
	"reliquary/rec"
	"reliquary/tree"
)

// Nodes and records have pieces of one length, so that what one of them gave back has room for any other. What is free beside them, in gaps at the index and at the heap's end, is less than gapWords.
const (
	nodeWords = 32
	gapWords  = 64
)

// An Unset changes two trees, each of which takes at most so many words until the old one is given back.
const (
	changeWords = 1200
	spareWords  = 2*changeWords + gapWords
)

// mustHaveRoom panics with api.ErrFull, unless all that stands could be taken away piece by piece, in whatever order. While it is, a tree may have up to two nodes for each leaf: leaves never become more, and branches are fewer than leaves. Nodes that hang on a snapshot or a pin, too, stay where they are, and those that come in their place need room of their own.
func (c *Core) mustHaveRoom() {
	most := 0
	var nodes []int
	for _, root := range c.now().trees() {
		l := tree.Pieces(c.s, c.h, root)
		nodes = append(nodes, l...)
		// A leaf is a node, and has a pair at least.
		most += 2 * min(len(l), tree.Len(c.s, root))
	}
	slices.Sort(nodes)
	own := c.alone(nodes, c.nodes)
	if c.h.Free()+nodeWords*len(own) < spareWords+nodeWords*most {
		panic(api.ErrFull)
	}
}

// leave gives back those of the old state's pieces, as they are told by pieces, that hang neither on the next one nor on one that is held.
func (c *Core) leave(old, next state, pieces func(state) []int) {
	gone, _ := mark.Split(pieces(old), pieces(next))
	for _, at := range c.alone(gone, pieces) {
		c.h.Give(at)
	}
}

// alone are the places that hang on no state that is held.
func (c *Core) alone(places []int, pieces func(state) []int) []int {
	for _, st := range c.held() {
		if len(places) == 0 {
			break
		}
		places, _ = mark.Split(places, pieces(st))
	}
	return places
}

// pairNodes are the places of the nodes of a state's pairs, rising.
func (c *Core) pairNodes(st state) []int {
	return tree.Pieces(c.s, c.h, st.pairs)
}

// memberNodes are the places of the nodes of a state's members, rising.
func (c *Core) memberNodes(st state) []int {
	return rank.Pieces(c.s, c.h, st.members)
}

// nodes are the places of all nodes of a state, rising.
func (c *Core) nodes(st state) []int {
	l := slices.Concat(c.pairNodes(st), c.memberNodes(st))
	slices.Sort(l)
	return l
}

// records are the places of the values of a state.
func (c *Core) records(st state) []int {
	var l []int
	for p := range tree.Walk(c.s, st.pairs, "") {
		if at, is := recordOf(p.V); is {
			l = append(l, at)
		}
	}
	return l
}

// pieces are the places of all pieces that hang on a state, rising.
func (c *Core) pieces(st state) []int {
	return c.closed(c.nodes(st), c.records(st))
}

// live are the places of all pieces that hang on something, rising.
func (c *Core) live() []int {
	places := ext.Pieces(c.s, c.h, c.h.Root(indexAt))
	var records []int
	for _, n := range c.numbers() {
		at, _ := c.snapshot(n)
		records = append(records, at)
	}
	for _, st := range append(c.held(), c.now()) {
		places = append(places, c.nodes(st)...)
		records = append(records, c.records(st)...)
	}
	return c.closed(places, records)
}

// closed are the places and the records with all that hangs on them, rising.
func (c *Core) closed(places, records []int) []int {
	records, _ = mark.Once(records)
	of := func(at int) ([]int, api.Errno) {
		if _, is := slices.BinarySearch(records, at); is {
			return rec.Pieces(c.s, c.h, at), api.OK
		}
		return nil, api.OK
	}
	l, e := mark.From(slices.Concat(places, records), of, c.h.All())
	mustBe(e == api.OK)
	return l
}
