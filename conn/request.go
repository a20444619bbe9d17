package conn

import (
	"reliquary/api"
	"reliquary/frame"
	"reliquary/parse"
)

// request is a command with its value, or what is wrong with its line.
type request struct {
	parse.Command
	value []byte
	wrong api.Errno
}

// requests takes requests out of bytes that come in pieces.
type requests struct {
	in   *frame.Framer
	head *request // its line was taken, its value did not come yet
}

func newRequests() *requests {
	return &requests{in: frame.New()}
}

func (q *requests) feed(b []byte) {
	q.in.Feed(b)
}

// next takes the next request; nil, if not all of it is there.
func (q *requests) next() *request {
	if q.head == nil {
		q.head = q.line()
	}
	r := q.head
	if r == nil {
		return nil
	}
	if r.hasValue() {
		b, ok := q.in.Payload(r.N)
		if !ok {
			return nil
		}
		r.value = b
	}
	q.head = nil
	return r
}

// line takes the next request without its value; nil, if its line is not there.
func (q *requests) line() *request {
	s, ok, e := q.in.Line()
	if e != api.OK {
		return &request{wrong: e}
	}
	if !ok {
		return nil
	}
	c, e := parse.Line(s)
	if e == api.ErrBig {
		// The value comes all the same, and its line feed.
		q.in.Skip(c.N + 1)
	}
	return &request{Command: c, wrong: e}
}

func (r *request) hasValue() bool {
	return r.wrong == api.OK && r.Kind == api.KPut
}
