package ext

import (
	"math/bits"
	"slices"

	"reliquary/api"
	"reliquary/guard"
	"reliquary/hash"
	"reliquary/heap"
	"reliquary/tx"
)

// index is a directory with all of its entries, in memory. It is changed there, and then written at once: what is ill-formed or does not fit is known ahead of the first word that is written.
type index struct {
	directory
	s       *tx.Store
	h       *heap.Heap
	has     int       // words that the directory has on the store
	to      []*bucket // by prefix; nil: no key has it
	changed []*bucket
	gone    []int // places of pieces that are no longer needed
}

// bucket has the keys of some entries.
type bucket struct {
	at    int
	parts []part // nil: not read yet
}

// read is the index of a root, to look at. It panics with api.ErrForm, if the entries of one bucket do not lie together as they should.
func read(s *tx.Store, root uint64) *index {
	d := directoryAt(s, root)
	x := &index{directory: d, s: s, has: d.words(), to: make([]*bucket, 1<<d.depth)}
	seen := map[int]struct{}{}
	for i := range 1 << d.depth {
		at := d.entry(s, i)
		if at == 0 {
			continue
		}
		if i > 0 && x.to[i-1] != nil && x.to[i-1].at == at {
			x.to[i] = x.to[i-1]
			continue
		}
		_, again := seen[at]
		mustBe(!again)
		seen[at] = struct{}{}
		x.to[i] = &bucket{at: at}
	}
	x.mustBeAligned()
	return x
}

// indexOf is the index of a root, to change. It panics with api.ErrForm.
func indexOf(s *tx.Store, h *heap.Heap, root uint64) *index {
	if root == 0 {
		return &index{s: s, h: h, to: make([]*bucket, 1)}
	}
	x := read(s, root)
	mustBeTaken(h, x.at, x.has)
	x.h = h
	return x
}

// mustBeAligned panics with api.ErrForm, unless the entries of each bucket are some part of all that halving gives.
func (x *index) mustBeAligned() {
	for i := 0; i < len(x.to); {
		_, size := x.block(i)
		i += size
		mustBe(i == len(x.to) || x.to[i] == nil || x.to[i] != x.to[i-1])
	}
}

// buckets are all of them, in the order of their entries.
func (x *index) buckets() []*bucket {
	l := slices.Compact(slices.Clone(x.to))
	return slices.DeleteFunc(l, func(b *bucket) bool { return b == nil })
}

// block tells the greatest part of all entries that halving gives which has the entry i and is alike: where it begins, and how many entries it has.
func (x *index) block(i int) (from, size int) {
	size = 1
	for size < len(x.to) && x.alike(i&^(2*size-1), 2*size, x.to[i]) {
		size *= 2
	}
	return i &^ (size - 1), size
}

// alike tells whether so many entries are all b.
func (x *index) alike(from, size int, b *bucket) bool {
	for _, c := range x.to[from : from+size] {
		if c != b {
			return false
		}
	}
	return true
}

func (x *index) fill(from, size int, b *bucket) {
	for i := range size {
		x.to[from+i] = b
	}
}

// chain are the parts of a bucket, read when they are first asked for.
func (x *index) chain(b *bucket) []part {
	if b.parts == nil {
		b.parts = slices.Collect(chainAt(x.s, b.at))
		for _, p := range b.parts {
			mustBeTaken(x.h, p.at, partWords)
		}
	}
	return b.parts
}

// with puts a pair whose key is not there, and tells the root. If no bucket may be parted, the pair's gets a further piece where it has no room.
func (x *index) with(q pair, mayPart bool) uint64 {
	x.pairs++
	for !x.placed(q) {
		b := x.to[prefix(q.key, x.depth)]
		if !mayPart || !x.part(b, q) {
			x.stretch(b, q)
			break
		}
	}
	return x.write()
}

// placed puts a pair where no key has its prefix, or in a bucket of one piece that has room.
func (x *index) placed(q pair) bool {
	i := prefix(q.key, x.depth)
	b := x.to[i]
	if b == nil {
		b = &bucket{parts: packed([]pair{q})}
		from, size := x.block(i)
		x.fill(from, size, b)
		x.changed = append(x.changed, b)
		return true
	}
	if l := x.chain(b); len(l) > 1 || !l[0].hasRoom(q) {
		return false
	}
	x.stretch(b, q)
	return true
}

// stretch puts a pair in the first piece of its bucket that has room, or else in a further one.
func (x *index) stretch(b *bucket, q pair) {
	l := x.chain(b)
	i := slices.IndexFunc(l, func(p part) bool { return p.hasRoom(q) })
	if i < 0 {
		i = len(l)
		b.parts = append(l, part{})
	}
	b.parts[i].pairs = append(b.parts[i].pairs, q)
	x.changed = append(x.changed, b)
}

// part parts a bucket by the first bit in which the hashes of its keys and of q's are unlike. It tells false if there is no such bit that a directory can tell, or to write all of the bucket's pieces anew might be too much for a transaction.
func (x *index) part(b *bucket, q pair) bool {
	chain := x.chain(b)
	all := pairsOf(chain)
	depth := unlike(append(slices.Clone(all), q))
	if depth > mostDepth {
		return false
	}
	sides := bySide(all, depth)
	both := len(sides[0]) > 0 && len(sides[1]) > 0
	if both && len(chain) > mostParted {
		return false
	}
	x.double(depth)
	from, size := x.block(prefix(q.key, x.depth))
	// Else a key is where it is not looked for.
	mustBe(x.depth-depth < bits.TrailingZeros(uint(size)))
	x.fill(from, size, nil)
	if both {
		other := &bucket{parts: packed(sides[1])}
		b.parts = packed(sides[0])
		x.reuse(chain, b, other)
		x.fillFor(sides[1][0], depth, other)
	}
	x.fillFor(b.parts[0].pairs[0], depth, b)
	return true
}

// reuse lets the parts of two buckets stand where those of a chain stood.
func (x *index) reuse(chain []part, two ...*bucket) {
	for _, b := range two {
		for i := range b.parts {
			if len(chain) > 0 {
				b.parts[i].at = chain[0].at
				chain = chain[1:]
			}
		}
	}
	for _, p := range chain {
		x.gone = append(x.gone, p.at)
	}
	x.changed = append(x.changed, two...)
}

// fillFor lets all entries that have the beginning of the pair's hash, of so many bits, be b.
func (x *index) fillFor(q pair, depth int, b *bucket) {
	rest := x.depth - depth
	x.fill(prefix(q.key, depth)<<rest, 1<<rest, b)
}

// double doubles the directory until it is so deep.
func (x *index) double(depth int) {
	for ; x.depth < depth; x.depth++ {
		to := make([]*bucket, 2*len(x.to))
		for i := range len(to) {
			to[i] = x.to[i/2]
		}
		x.to = to
	}
}

// halve halves the directory as long as it loses nothing.
func (x *index) halve() {
	for ; x.depth > 0; x.depth-- {
		half := make([]*bucket, len(x.to)/2)
		for i := range len(half) {
			if x.to[2*i] != x.to[2*i+1] {
				return
			}
			half[i] = x.to[2*i]
		}
		x.to = half
	}
}

// without takes a key away, which is there, and tells the root.
func (x *index) without(key string) uint64 {
	x.pairs--
	i := prefix(key, x.depth)
	x.remove(i, key)
	x.join(i)
	x.halve()
	return x.write()
}

// remove takes a key out of the bucket of the entry i.
func (x *index) remove(i int, key string) {
	b := x.to[i]
	l := x.chain(b)
	k := slices.IndexFunc(l, func(p part) bool { return p.find(key) >= 0 })
	n := l[k].find(key)
	l[k].pairs = slices.Delete(l[k].pairs, n, n+1)
	if len(l) == 1 && len(l[0].pairs) == 0 {
		x.gone = append(x.gone, l[0].at)
		from, size := x.block(i)
		x.fill(from, size, nil)
		return
	}
	x.changed = append(x.changed, b)
	for left := max(k-1, 0); left <= k && left+1 < len(b.parts); left++ {
		if x.joined(&l[left], l[left+1]) {
			b.parts = slices.Delete(l, left+1, left+2)
			return
		}
	}
}

// join joins the bucket of the entry i with the one beside it, as long as both fit one piece. Where no key is, the one beside it takes those entries, too.
func (x *index) join(i int) {
	for from, size := x.block(i); size < len(x.to); from, size = x.block(i) {
		beside := from ^ size
		b, c := x.to[i], x.to[beside]
		if !x.alike(beside, size, c) {
			return
		}
		if b == nil {
			b = c
		} else if c != nil {
			l, m := x.chain(b), x.chain(c)
			if len(l) > 1 || len(m) > 1 || !x.joined(&l[0], m[0]) {
				return
			}
			x.changed = append(x.changed, b)
		}
		x.fill(from&beside, 2*size, b)
	}
}

// joined moves the pairs of one part to another, if that has room for them all.
func (x *index) joined(p *part, other part) bool {
	// What stands ahead of the pairs is counted in both.
	if p.words()+other.words()-1 > partWords {
		return false
	}
	p.pairs = append(p.pairs, other.pairs...)
	x.gone = append(x.gone, other.at)
	return true
}

// write writes what was changed, and tells the root.
func (x *index) write() uint64 {
	// Words that lead to one piece by two ways would have it given twice.
	slices.Sort(x.gone)
	mustBe(len(slices.Compact(slices.Clone(x.gone))) == len(x.gone))
	if x.alike(0, len(x.to), nil) {
		x.free(append(x.gone, x.at)...)
		return 0
	}
	x.take()
	for _, b := range x.changed {
		b.write(x.s)
	}
	x.free(x.gone...)
	if x.words() < x.has {
		// What is given back ahead has the room for it, so that a full heap is no hindrance.
		x.free(x.at)
		x.at = x.h.Take(x.words())
	}
	x.writeHead(x.s)
	x.writeEntries()
	return uint64(x.at)
}

// take takes all pieces that are needed. If it can't, the heap gets back what was taken ahead of the panic, and no word of the index is changed yet.
func (x *index) take() {
	var taken []int
	next := func(words int) int {
		at := x.h.Take(words)
		taken = append(taken, at)
		return at
	}
	e := guard.Errno(func() {
		for _, b := range x.changed {
			b.settle(func() int { return next(partWords) })
		}
		if x.words() > x.has {
			if x.has > 0 {
				x.gone = append(x.gone, x.at)
			}
			x.at = next(x.words())
		}
	})
	if e == api.OK {
		return
	}
	for _, at := range slices.Backward(taken) {
		x.h.Give(at)
	}
	panic(e)
}

// settle gives each part that has none a place.
func (b *bucket) settle(next func() int) {
	for i := range b.parts {
		if b.parts[i].at == 0 {
			b.parts[i].at = next()
		}
	}
	b.at = b.parts[0].at
}

// write writes all parts of a bucket where they stand.
func (b *bucket) write(s *tx.Store) {
	for i := range b.parts {
		b.parts[i].next = 0
		if i+1 < len(b.parts) {
			b.parts[i].next = b.parts[i+1].at
		}
		b.parts[i].write(s)
	}
}

func (x *index) writeEntries() {
	w := make([]uint64, x.words()-entriesAt)
	for i := range 1 << x.depth {
		if b := x.to[i]; b != nil {
			w[i/entriesAWord] |= line(b.at) << (i % entriesAWord * entryBits)
		}
	}
	putAll(x.s, x.at+entriesAt, w)
}

// free gives pieces back.
func (x *index) free(places ...int) {
	for _, at := range places {
		// A piece that is given keeps its words: whoever asks without a heap must see that nothing stands here.
		x.s.Put(at, 0)
		x.h.Give(at)
	}
}

// unlike tells how many bits of the keys' hashes it takes to tell two of them apart; more than a hash has, if all are alike.
func unlike(l []pair) int {
	first, differ := hash.Of(seed, l[0].key), uint64(0)
	for _, q := range l {
		differ |= hash.Of(seed, q.key) ^ first
	}
	return bits.LeadingZeros64(differ) + 1
}

// bySide tells the pairs apart by the last of so many bits of their hashes.
func bySide(l []pair, depth int) (sides [2][]pair) {
	for _, q := range l {
		side := prefix(q.key, depth) & 1
		sides[side] = append(sides[side], q)
	}
	return sides
}
