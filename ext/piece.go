package ext

import (
	"iter"
	"slices"

	"reliquary/api"
	"reliquary/tx"
	"reliquary/words"
)

const (
	partWords  = 64 // words of a piece of a bucket
	mostDepth  = 10 // of a directory: deeper, and it would have no room in a piece
	mostParted = 16 // pieces of a bucket that are written anew at once
)

// Marks by which words that are none of an index's are known.
const (
	directoryMark = 0x65787464
	partMark      = 0x65787462
)

// A piece's first word has its mark uppermost. That of a directory tells how deep it is; behind it stand how many pairs there are, and the entries, four a word. That of a bucket's piece tells how many pairs it has, and the line of the bucket's next piece; behind it stand the pairs, each the word and the Pack of its key.
const (
	markShift    = 32
	itemsShift   = 16
	fieldMask    = 1<<16 - 1
	pairsAt      = 1
	entriesAt    = 2
	entryBits    = 16
	entriesAWord = 64 / entryBits
)

// pair is a key and its word.
type pair struct {
	key string
	v   uint64
}

// part is a piece of a bucket.
type part struct {
	at    int // 0: none is taken yet
	next  int // the place of the bucket's next piece; 0: none
	pairs []pair
}

// directory is what the first words of a directory tell.
type directory struct {
	at, depth, pairs int
}

// head is what the first word of a bucket's piece tells.
type head struct {
	items, next int
}

// words is how many words the pair takes.
func (p pair) words() int {
	return 1 + words.Need(len(p.key))
}

// words is how many words the pairs and what stands ahead of them take.
func (p part) words() int {
	n := 1
	for _, q := range p.pairs {
		n += q.words()
	}
	return n
}

func (p part) hasRoom(q pair) bool {
	return p.words()+q.words() <= partWords
}

// find tells which of the pairs has a key; below 0: none.
func (p part) find(key string) int {
	return slices.IndexFunc(p.pairs, func(q pair) bool { return q.key == key })
}

// place tells where the word of the pair i stands.
func (p part) place(i int) int {
	return p.at + part{pairs: p.pairs[:i]}.words()
}

// write writes the part where it stands.
func (p part) write(s *tx.Store) {
	w := []uint64{partMark<<markShift | uint64(len(p.pairs))<<itemsShift | line(p.next)}
	for _, q := range p.pairs {
		w = append(w, q.v)
		w = append(w, words.Pack([]byte(q.key))...)
	}
	putAll(s, p.at, w)
}

// words is how many words the directory takes; the heap gives a line at least.
func (d directory) words() int {
	return max(api.Line, entriesAt+(1<<d.depth+entriesAWord-1)/entriesAWord)
}

// entry tells the place of the bucket of the keys with a prefix; 0: there are none.
func (d directory) entry(s *tx.Store, prefix int) int {
	w := s.Load(d.at + entriesAt + prefix/entriesAWord)
	return int(w>>(prefix%entriesAWord*entryBits)&fieldMask) * api.Line
}

func (d directory) writeHead(s *tx.Store) {
	putAll(s, d.at, []uint64{directoryMark<<markShift | uint64(d.depth), uint64(d.pairs)})
}

// directoryAt is the directory that a root stands for. It panics with api.ErrForm.
func directoryAt(s *tx.Store, root uint64) directory {
	size := uint64(s.Size())
	mustBe(root >= api.Line && root < size && root%api.Line == 0)
	at := int(root)
	w := s.Load(at)
	d := directory{at: at, depth: int(w & (1<<markShift - 1))}
	mustBe(w>>markShift == directoryMark && d.depth <= mostDepth && d.words() <= s.Size()-at)
	pairs := s.Load(at + pairsAt)
	mustBe(pairs >= 1 && pairs <= size)
	d.pairs = int(pairs)
	return d
}

// headAt is the head of the bucket's piece at a place, which is that of a line. It panics with api.ErrForm.
func headAt(s *tx.Store, at int) head {
	mustBe(at <= s.Size()-partWords)
	w := s.Load(at)
	mustBe(w>>markShift == partMark)
	return head{int(w >> itemsShift & fieldMask), int(w&fieldMask) * api.Line}
}

// partAt is the bucket's piece at a place. It panics with api.ErrForm.
func partAt(s *tx.Store, at int) part {
	d := headAt(s, at)
	mustBe(d.items >= 1)
	p := part{at: at, next: d.next}
	for i := at + 1; len(p.pairs) < d.items; {
		q := pairAt(s, i, at+partWords)
		p.pairs = append(p.pairs, q)
		i += q.words()
	}
	return p
}

// pairAt is the pair at a place, which ends ahead of another place. It panics with api.ErrForm.
func pairAt(s *tx.Store, at, end int) pair {
	mustBe(end-at > 2)
	long := s.Load(at + 1)
	mustBe(long >= 1 && long <= api.MaxKey)
	w := make([]uint64, words.Need(int(long)))
	mustBe(at+1+len(w) <= end)
	for i := range w {
		w[i] = s.Load(at + 1 + i)
	}
	key, e := words.Unpack(w)
	mustBe(e == api.OK)
	return pair{string(key), s.Load(at)}
}

// chainAt tells the pieces of the bucket at a place one after the other, none at 0. Whoever goes through them sees a panic with api.ErrForm, if they are more than have room.
func chainAt(s *tx.Store, at int) iter.Seq[part] {
	return func(yield func(part) bool) {
		left := s.Size() / partWords
		for next := at; next != 0; left-- {
			mustBe(left > 0)
			p := partAt(s, next)
			if !yield(p) {
				return
			}
			next = p.next
		}
	}
}

func pairsOf(chain []part) []pair {
	var l []pair
	for _, p := range chain {
		l = append(l, p.pairs...)
	}
	return l
}

// packed are as many parts as the pairs need; none has room for what the next one begins with.
func packed(l []pair) []part {
	var parts []part
	for _, q := range l {
		n := len(parts)
		if n == 0 || !parts[n-1].hasRoom(q) {
			parts = append(parts, part{})
			n++
		}
		parts[n-1].pairs = append(parts[n-1].pairs, q)
	}
	return parts
}

// putAll writes words from a place on. Those that are there already are left out, since a transaction has room for so many only.
func putAll(s *tx.Store, at int, w []uint64) {
	for i, v := range w {
		if s.Load(at+i) != v {
			s.Put(at+i, v)
		}
	}
}

func line(at int) uint64 {
	return uint64(at / api.Line)
}
