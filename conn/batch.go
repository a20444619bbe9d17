package conn

import (
	"reliquary/api"
	"reliquary/reply"
)

// beginBatch lets changes be kept from now on, to be done all at once.
func (n *Conn) beginBatch(request) (string, api.Errno) {
	if n.keeps {
		return "", api.ErrArg
	}
	n.keeps = true
	return reply.OK(), api.OK
}

// keep puts a change behind those that are kept: ErrMany, if there are as many as may be done at once.
func (n *Conn) keep(op api.Op) api.Errno {
	if len(n.kept) == api.MaxBatch {
		return api.ErrMany
	}
	n.kept = append(n.kept, op)
	return api.OK
}

// commit does what was kept, all or nothing.
func (n *Conn) commit(request) (string, api.Errno) {
	l, e := n.endBatch()
	if e != api.OK {
		return "", e
	}
	if len(l) == 0 {
		// A Batch of none is ErrArg.
		return reply.OK(), api.OK
	}
	return reply.OK(), n.store.Batch(l)
}

func (n *Conn) cancel(request) (string, api.Errno) {
	_, e := n.endBatch()
	return reply.OK(), e
}

// endBatch tells what was kept, and keeps nothing from now on: ErrArg, if there was no BEGIN.
func (n *Conn) endBatch() ([]api.Op, api.Errno) {
	if !n.keeps {
		return nil, api.ErrArg
	}
	l := n.kept
	n.keeps, n.kept = false, nil
	return l, api.OK
}
