package tree

import (
	"slices"
	"strings"

	"reliquary/api"
	"reliquary/tx"
	"reliquary/words"
)

const (
	nodeWords  = 32 // words of a node
	leafHeight = 1
	mostHeight = 16         // beyond all that fit a store, so that words that are no tree's make no change a great one
	mark       = 0x74726565 // by which words that are no node's are known
)

// A node's first word has the mark uppermost, then its height, how many items it has, and how many bytes its keys have. Behind it stand the items, a word each, and the keys.
const (
	markShift   = 32
	heightShift = 24
	itemsShift  = 16
	byteMask    = 1<<8 - 1
	bytesMask   = 1<<16 - 1
)

// An item of a branch has how many pairs hang on the kid uppermost, then the kid's place.
const (
	pairsShift = 32
	placeMask  = 1<<32 - 1
)

// node is a leaf or a branch. None is changed once it is made.
type node interface {
	height() int
	keys() []string
	items() []uint64
	pairs() int                                    // how many hang on it
	least() int                                    // items that it has to have
	cut(i int) (left node, key string, right node) // ahead of the item i; key stands between the two
}

// leaf has pairs, rising.
type leaf []Pair

// branch has kids, and between each two of them a key: what is below it stands to its left, what is not to its right.
type branch struct {
	high    int
	between []string
	kids    []kid
}

// kid is where a node stands, and how many pairs hang on it.
type kid struct {
	at    uint64
	pairs int
}

func (l leaf) height() int {
	return leafHeight
}

func (l leaf) keys() []string {
	var keys []string
	for _, p := range l {
		keys = append(keys, p.Key)
	}
	return keys
}

func (l leaf) items() []uint64 {
	var items []uint64
	for _, p := range l {
		items = append(items, p.V)
	}
	return items
}

func (l leaf) pairs() int {
	return len(l)
}

func (l leaf) least() int {
	return 1
}

func (l leaf) cut(i int) (left node, key string, right node) {
	return l[:i], parting(l[i-1].Key, l[i].Key), l[i:]
}

// find tells where a key stands, or would.
func (l leaf) find(key string) (int, bool) {
	return slices.BinarySearchFunc(l, key, func(p Pair, key string) int { return strings.Compare(p.Key, key) })
}

// with is the leaf that also has the pair.
func (l leaf) with(key string, v uint64) leaf {
	i, there := l.find(key)
	behind := i
	if there {
		behind++
	}
	return slices.Concat(l[:i], leaf{{key, v}}, l[behind:])
}

// without is the leaf that has no such key.
func (l leaf) without(key string) leaf {
	i, there := l.find(key)
	mustBe(there)
	return slices.Concat(l[:i], l[i+1:])
}

func (b branch) height() int {
	return b.high
}

func (b branch) keys() []string {
	return b.between
}

func (b branch) items() []uint64 {
	var items []uint64
	for _, k := range b.kids {
		items = append(items, uint64(k.pairs)<<pairsShift|k.at)
	}
	return items
}

func (b branch) pairs() int {
	sum := 0
	for _, k := range b.kids {
		sum += k.pairs
	}
	return sum
}

func (b branch) least() int {
	return 2
}

func (b branch) cut(i int) (left node, key string, right node) {
	return branch{b.high, b.between[:i-1], b.kids[:i]}, b.between[i-1], branch{b.high, b.between[i:], b.kids[i:]}
}

// towards tells which of the kids has a key, if any has.
func (b branch) towards(key string) int {
	i, there := slices.BinarySearch(b.between, key)
	if there {
		i++
	}
	return i
}

// kid is the node of the kid i.
func (b branch) kid(s *tx.Store, i int) node {
	return nodeAt(s, b.kids[i].at, b.high-1)
}

// with is the branch that has other kids in the place of those from one on and ahead of another, with the keys between them.
func (b branch) with(from, to int, kids []kid, between []string) branch {
	return branch{
		high:    b.high,
		between: slices.Concat(b.between[:from], between, b.between[to-1:]),
		kids:    slices.Concat(b.kids[:from], kids, b.kids[to:]),
	}
}

// without is the branch that has the kid i no more.
func (b branch) without(i int) branch {
	k := max(i-1, 0)
	return branch{
		high:    b.high,
		between: slices.Concat(b.between[:k], b.between[k+1:]),
		kids:    slices.Concat(b.kids[:i], b.kids[i+1:]),
	}
}

// joined is one node of two that stand beside each other, with key between them.
func joined(left node, key string, right node) node {
	if a, inner := left.(branch); inner {
		b := right.(branch)
		return branch{a.high, slices.Concat(a.between, []string{key}, b.between), slices.Concat(a.kids, b.kids)}
	}
	return slices.Concat(left.(leaf), right.(leaf))
}

// halved are the two nodes that n is cut into so that the greater one is as small as may be.
func halved(n node) (left node, key string, right node) {
	size := 0
	for i := n.least(); i <= len(n.items())-n.least(); i++ {
		a, k, b := n.cut(i)
		if most := max(sizeOf(a), sizeOf(b)); size == 0 || most < size {
			left, key, right, size = a, k, b, most
		}
	}
	return left, key, right
}

// parting is the shortest key that is above a and not above b. Short ones let a branch have more kids.
func parting(a, b string) string {
	n := 0
	for n < min(len(a), len(b)-1) && a[n] == b[n] {
		n++
	}
	return b[:n+1]
}

// head is what the first word of a node tells.
type head struct {
	height, items, bytes int
}

// headOf is the head of a node, and the bytes of its keys.
func headOf(n node) (head, []byte) {
	var parts [][]byte
	for _, k := range n.keys() {
		parts = append(parts, []byte(k))
	}
	b := words.Join(parts...)
	return head{n.height(), len(n.items()), len(b)}, b
}

// wordsOf is a node as it is written. The first word of the keys' Pack is left out, since the head tells it.
func wordsOf(n node) []uint64 {
	d, b := headOf(n)
	return slices.Concat([]uint64{d.word()}, n.items(), words.Pack(b)[1:])
}

func sizeOf(n node) int {
	d, _ := headOf(n)
	return d.size()
}

// size is how many words the node uses: the head stands where a Pack of the keys has its own first word.
func (d head) size() int {
	return d.items + words.Need(d.bytes)
}

func (d head) word() uint64 {
	return mark<<markShift | uint64(d.height)<<heightShift | uint64(d.items)<<itemsShift | uint64(d.bytes)
}

// headAt is the head of the node at a place. It panics with api.ErrForm.
func headAt(s *tx.Store, at uint64) head {
	size := uint64(s.Size())
	mustBe(at >= api.Line && at < size && at%api.Line == 0)
	w := s.Load(int(at))
	d := head{int(w >> heightShift & byteMask), int(w >> itemsShift & byteMask), int(w & bytesMask)}
	mustBe(w>>markShift == mark && d.height >= leafHeight && d.height <= mostHeight)
	mustBe(d.size() <= nodeWords && nodeWords <= size-at)
	return d
}

// top is the node that a root stands for: a leaf of none for the empty tree. It panics with api.ErrForm.
func top(s *tx.Store, root uint64) node {
	if root == 0 {
		return leaf{}
	}
	return nodeAt(s, root, headAt(s, root).height)
}

// nodeAt is the node at a place, which has to be so high. It panics with api.ErrForm, if none is there. Kids are less high than their branch, so that every way down ends, whatever the words say.
func nodeAt(s *tx.Store, at uint64, height int) node {
	d := headAt(s, at)
	mustBe(d.height == height)
	w := make([]uint64, d.size())
	for i := range w {
		w[i] = s.Load(int(at) + i)
	}
	keys := keysOf(d, w[1+d.items:])
	if d.height == leafHeight {
		return leafOf(keys, w[1:1+d.items])
	}
	return branchOf(d.height, keys, w[1:1+d.items])
}

// keysOf are the keys that stand in the words behind a node's items. It panics with api.ErrForm, if they are none, or do not rise.
func keysOf(d head, w []uint64) []string {
	b, e := words.Unpack(slices.Concat([]uint64{uint64(d.bytes)}, w))
	mustBe(e == api.OK)
	parts, e := words.Split(b)
	mustBe(e == api.OK)
	var keys []string
	for i, p := range parts {
		k := string(p)
		mustBe(len(k) >= 1 && len(k) <= api.MaxKey && (i == 0 || keys[i-1] < k))
		keys = append(keys, k)
	}
	return keys
}

func leafOf(keys []string, items []uint64) leaf {
	mustBe(len(items) >= 1 && len(keys) == len(items))
	var l leaf
	for i, k := range keys {
		l = append(l, Pair{k, items[i]})
	}
	return l
}

func branchOf(height int, keys []string, items []uint64) branch {
	mustBe(len(items) >= 2 && len(keys) == len(items)-1)
	b := branch{high: height, between: keys}
	for _, v := range items {
		b.kids = append(b.kids, kidOf(v))
	}
	return b
}

func kidOf(item uint64) kid {
	return kid{item & placeMask, int(item >> pairsShift)}
}
