package rank

import (
	"slices"

	"reliquary/api"
	"reliquary/guard"
	"reliquary/heap"
	"reliquary/tree"
	"reliquary/tx"
)

// trail is one tree on its way through several changes. Roots between the first one and the last are nobody's, so what hangs on them alone is given back.
type trail struct {
	s     *tx.Store
	h     *heap.Heap
	root  uint64
	first []int // pieces of the first root, which stay whatever comes
	own   []int // pieces of the root so far that the first one does not have
}

// setOut begins a trail. It goes through the whole tree ahead of any change, so that words that are no tree's are seen while nothing is taken.
func setOut(s *tx.Store, h *heap.Heap, root uint64) *trail {
	return &trail{s: s, h: h, root: root, first: tree.Pieces(s, h, root)}
}

func (t *trail) put(key string, v uint64) {
	t.turn(tree.Put(t.s, t.h, t.root, key, v))
}

// del takes away a key that is there. It panics with api.ErrForm, if it is not.
func (t *trail) del(key string) {
	root, there := tree.Del(t.s, t.h, t.root, key)
	mustBe(there)
	t.turn(root)
}

// turn goes on to a root that was made of the one so far.
func (t *trail) turn(root uint64) {
	own := without(tree.Pieces(t.s, t.h, root), t.first)
	t.give(without(t.own, own))
	t.root, t.own = root, own
}

// back gives back all that was taken on the way.
func (t *trail) back() {
	t.give(t.own)
}

func (t *trail) give(places []int) {
	for _, at := range places {
		t.h.Give(at)
	}
}

// without is the places that are not among others. Both lists rise.
func without(places, others []int) []int {
	var l []int
	for _, at := range places {
		if _, there := slices.BinarySearch(others, at); !there {
			l = append(l, at)
		}
	}
	return l
}

// changed is what f makes of a ranking, tree by tree. If it can't, the heap gets back what was taken ahead of the panic, so that who goes on in spite of it has lost no room.
func changed(s *tx.Store, h *heap.Heap, r Root, f func(byName, byScore *trail)) Root {
	byName, byScore := setOut(s, h, r.ByName), setOut(s, h, r.ByScore)
	e := guard.Errno(func() { f(byName, byScore) })
	if e != api.OK {
		byName.back()
		byScore.back()
		panic(e)
	}
	return Root{byName.root, byScore.root}
}
