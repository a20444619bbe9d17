package heap

import (
	"math/bits"

	"reliquary/api"
)

// firstHalves are the bits of the blocks that are first halves.
const firstHalves = 0x5555555555555555

// Check answers ErrForm, if pieces overlap, or what is free is not what they leave, or the heap's own words say nothing. It panics as tx does.
func (h *Heap) Check() api.Errno {
	c := cover{h: h, by: make([]int, h.units)}
	if h.s.Load(markAt) != mark || !c.pieces() || !c.blocks() || !c.whole() {
		return api.ErrForm
	}
	return api.OK
}

// cover counts what has each of a heap's units: each must be had once, by a piece or by a free block.
type cover struct {
	h    *Heap
	by   []int
	free int // words in free blocks
}

// lay has the 2^k units from u on; false, if they are not there.
func (c *cover) lay(u, k int) bool {
	if u+1<<k > len(c.by) {
		return false
	}
	for i := range 1 << k {
		c.by[u+i]++
	}
	return true
}

// pieces lays all that was asked for; false, if a word says what no Take asks for.
func (c *cover) pieces() bool {
	for u := range groups(c.h.units, asks) * asks {
		words := c.h.asked(u)
		if words == 0 {
			continue
		}
		if !c.h.begins(u) || !c.lay(u, level(words)) {
			return false
		}
	}
	return true
}

// blocks lays all free blocks; false, if one is not there, or two that are halves of one stand unjoined.
func (c *cover) blocks() bool {
	for k := range levels {
		for i := range groups(c.h.blocks(k), 64) {
			w := c.h.s.Load(c.h.bits[k] + i)
			if k < levels-1 && w&(w>>1)&firstHalves != 0 {
				return false
			}
			for ; w != 0; w &= w - 1 {
				if !c.lay((64*i+bits.TrailingZeros64(w))<<k, k) {
					return false
				}
				c.free += unit << k
			}
		}
	}
	return true
}

// whole tells whether each unit is had once, and Free is what is left.
func (c *cover) whole() bool {
	for _, n := range c.by {
		if n != 1 {
			return false
		}
	}
	return c.h.s.Load(freeAt) == uint64(c.free)
}
