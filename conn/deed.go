package conn

import (
	"reliquary/api"
	"reliquary/core"
	"reliquary/reply"
)

// deed is what a command does. Its method tells the text of the answer, which counts only beside no error.
type deed struct {
	do func(*Conn, request) (string, api.Errno)
	op int // what it is kept as behind BEGIN; 0: it is not
}

// deeds are those of all kinds of commands.
func deeds() []deed {
	return []deed{
		api.KPut:    {(*Conn).put, api.OPut},
		api.KGet:    {(*Conn).get, 0},
		api.KDel:    {(*Conn).del, api.ODel},
		api.KScan:   {(*Conn).scan, 0},
		api.KSet:    {(*Conn).set, api.OSet},
		api.KBump:   {(*Conn).bump, api.OBump},
		api.KUnset:  {(*Conn).unset, api.OUnset},
		api.KScore:  {(*Conn).score, 0},
		api.KRange:  {(*Conn).members, 0},
		api.KPlace:  {(*Conn).place, 0},
		api.KSpread: {(*Conn).spread, 0},
		api.KSnap:   {(*Conn).snap, 0},
		api.KDrop:   {(*Conn).drop, 0},
		api.KGetAt:  {(*Conn).getAt, 0},
		api.KScanAt: {(*Conn).scanAt, 0},
		api.KSnaps:  {(*Conn).snaps, 0},
		api.KCount:  {(*Conn).count, 0},
		api.KBegin:  {(*Conn).beginBatch, 0},
		api.KCommit: {(*Conn).commit, 0},
		api.KCancel: {(*Conn).cancel, 0},
		api.KPing:   {(*Conn).ping, 0},
		api.KQuit:   {(*Conn).quit, 0},
	}
}

func (n *Conn) put(r request) (string, api.Errno) {
	return reply.OK(), n.store.Put(r.Key, r.value)
}

func (n *Conn) get(r request) (string, api.Errno) {
	return valueIn(n.store.Now(), r.Key)
}

func (n *Conn) getAt(r request) (string, api.Errno) {
	v, e := n.store.At(r.ID)
	if e != api.OK {
		return "", e
	}
	return valueIn(v, r.Key)
}

func (n *Conn) del(r request) (string, api.Errno) {
	was, e := n.store.Del(r.Key)
	return reply.Bool(was), e
}

func (n *Conn) scan(r request) (string, api.Errno) {
	return n.pairsIn(n.store.Now(), r)
}

func (n *Conn) scanAt(r request) (string, api.Errno) {
	v, e := n.store.At(r.ID)
	if e != api.OK {
		return "", e
	}
	return n.pairsIn(v, r)
}

func (n *Conn) set(r request) (string, api.Errno) {
	return reply.OK(), n.store.Set(r.Key, r.A)
}

func (n *Conn) bump(r request) (string, api.Errno) {
	x, e := n.store.Bump(r.Key, r.A)
	return reply.Score(x), e
}

func (n *Conn) unset(r request) (string, api.Errno) {
	was, e := n.store.Unset(r.Key)
	return reply.Bool(was), e
}

func (n *Conn) score(r request) (string, api.Errno) {
	x, there, e := n.store.Now().Score(r.Key)
	return orNone(reply.Score, x, there), e
}

// members takes a step more for each member that it tells.
func (n *Conn) members(r request) (string, api.Errno) {
	l, e := n.store.Now().Range(r.A, r.B, r.N)
	n.left = len(l)
	return reply.Scored(l), e
}

func (n *Conn) place(r request) (string, api.Errno) {
	at, there, e := n.store.Now().Place(r.Key)
	return orNone(reply.Number, at, there), e
}

func (n *Conn) spread(r request) (string, api.Errno) {
	s, e := n.store.Now().Spread(r.A, r.B)
	return reply.Spread(s), e
}

func (n *Conn) snap(request) (string, api.Errno) {
	id, e := n.store.Snap()
	return reply.Number(id), e
}

func (n *Conn) drop(r request) (string, api.Errno) {
	return reply.OK(), n.store.Drop(r.ID)
}

func (n *Conn) snaps(request) (string, api.Errno) {
	l, e := n.store.Snaps()
	return reply.Numbers(l), e
}

func (n *Conn) count(request) (string, api.Errno) {
	pairs, members, e := n.store.Now().Counts()
	return reply.Numbers([]int{pairs, members}), e
}

func (n *Conn) ping(request) (string, api.Errno) {
	return reply.OK(), api.OK
}

func (n *Conn) quit(request) (string, api.Errno) {
	n.closed = true
	return reply.OK(), api.OK
}

// pairsIn takes a step more for each pair that it tells.
func (n *Conn) pairsIn(v *core.View, r request) (string, api.Errno) {
	l, e := v.Scan(r.Lo, r.Hi, r.N)
	n.left = len(l)
	return reply.Pairs(l), e
}

func valueIn(v *core.View, key string) (string, api.Errno) {
	b, there, e := v.Get(key)
	return orNone(reply.Value, b, there), e
}

// orNone is the text of what was found, if it is there.
func orNone[T any](text func(T) string, what T, there bool) string {
	if !there {
		return reply.None()
	}
	return text(what)
}
