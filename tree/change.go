package tree

import (
	"slices"

	"reliquary/api"
	"reliquary/guard"
	"reliquary/heap"
	"reliquary/tx"
)

// thinWords is how many words a node uses at most that is joined with the one beside it, if both fit one node.
const thinWords = nodeWords / 2

// change makes the nodes of one Put or Del.
type change struct {
	s     *tx.Store
	h     *heap.Heap
	taken []int
}

// made tells the root that f makes. If it can't, the heap gets back what was taken ahead of the panic, so that who goes on in spite of it has lost no room.
func (c *change) made(f func() uint64) (root uint64) {
	e := guard.Errno(func() { root = f() })
	if e == api.OK {
		return root
	}
	for _, at := range slices.Backward(c.taken) {
		c.h.Give(at)
	}
	panic(e)
}

// put is the node with the pair, not written yet. It may be too great.
func (c *change) put(n node, key string, v uint64) node {
	b, inner := n.(branch)
	if !inner {
		return n.(leaf).with(key, v)
	}
	i := b.towards(key)
	return c.replaced(b, i, i+1, c.put(b.kid(c.s, i), key, v))
}

// del is the node without the key, which is there, not written yet. It may be too great, since a key between two kids may be a longer one now, or have too few items.
func (c *change) del(n node, key string) node {
	b, inner := n.(branch)
	if !inner {
		return n.(leaf).without(key)
	}
	i := b.towards(key)
	return c.lessened(b, i, c.del(b.kid(c.s, i), key))
}

// lessened is the branch b whose kid i has become n, which had something taken away: if it has become thin it is joined with one beside it.
func (c *change) lessened(b branch, i int, n node) branch {
	if len(n.items()) == 0 {
		return b.without(i)
	}
	if sizeOf(n) > thinWords {
		return c.replaced(b, i, i+1, n)
	}
	for left := max(i-1, 0); left <= i && left+1 < len(b.kids); left++ {
		both := c.both(b, left, i, n)
		if sizeOf(both) <= nodeWords || len(n.items()) < n.least() {
			return c.replaced(b, left, left+2, both)
		}
	}
	return c.replaced(b, i, i+1, n)
}

// both is one node of the kid left of b and the one behind it; n stands for the kid i, which is one of them.
func (c *change) both(b branch, left, i int, n node) node {
	if left == i {
		return joined(n, b.between[left], b.kid(c.s, i+1))
	}
	return joined(b.kid(c.s, left), b.between[left], n)
}

// replaced is the branch b with n in the place of the kids from one on and ahead of another.
func (c *change) replaced(b branch, from, to int, n node) branch {
	kids, between := c.written(n)
	return b.with(from, to, kids, between)
}

// root writes the top node of a tree: what it tells is the root.
func (c *change) root(n node) uint64 {
	if len(n.items()) == 0 {
		return 0
	}
	if b, inner := n.(branch); inner && len(b.kids) == 1 {
		return b.kids[0].at
	}
	kids, between := c.written(n)
	if len(kids) == 1 {
		return kids[0].at
	}
	mustBe(n.height() < mostHeight)
	return c.write(branch{n.height() + 1, between, kids}).at
}

// written writes a node, as two if it is too great for one, with the key that stands between them.
func (c *change) written(n node) (kids []kid, between []string) {
	if sizeOf(n) <= nodeWords {
		return []kid{c.write(n)}, nil
	}
	left, key, right := halved(n)
	return []kid{c.write(left), c.write(right)}, []string{key}
}

// write writes a node into a piece of its own.
func (c *change) write(n node) kid {
	w := wordsOf(n)
	at := c.h.Take(nodeWords)
	c.taken = append(c.taken, at)
	for i, v := range w {
		c.s.Put(at+i, v)
	}
	return kid{uint64(at), n.pairs()}
}
