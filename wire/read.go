package wire

import (
	"bytes"

	"lattice/api"
)

// reader has the bytes that are yet to be read.
type reader struct {
	rest []byte
}

// part reads m's p.
func (r *reader) part(p part, m *api.Msg) (e api.Errno) {
	switch p {
	case partPred:
		m.Pred, e = r.pred()
	case partNode:
		m.Node, e = r.number(aNode)
	case partList:
		m.List, e = r.list()
	case partDone:
		var n int
		n, e = r.number(aDone)
		m.Done = n == 1
	case partErr:
		var n int
		n, e = r.number(anErr)
		m.Err = api.Errno(n)
	case partKey:
		var b []byte
		b, e = r.take(len(m.Key))
		copy(m.Key[:], b)
	case partData:
		m.Data, e = r.bytes()
	case partLease:
		m.Lease, e = r.number(aTime)
	}
	return e
}

// take is the next n bytes, where they lie.
func (r *reader) take(n int) ([]byte, api.Errno) {
	if len(r.rest) < n {
		return nil, api.ErrCut
	}
	b := r.rest[:n]
	r.rest = r.rest[n:]
	return b, api.OK
}

// number reads one of the form f; what it is counts only when its last byte is there.
func (r *reader) number(f form) (int, api.Errno) {
	size, least, most := bounds(f)
	b, e := r.take(size)
	if e != api.OK {
		return 0, e
	}
	n := 0
	for _, x := range b {
		n = n<<8 | int(x)
	}
	if n < least || n > most {
		return 0, api.ErrBad
	}
	return n, api.OK
}

func (r *reader) pred() (int, api.Errno) {
	if len(r.rest) > 0 && r.rest[0] == noNodeByte {
		r.rest = r.rest[1:]
		return noNode, api.OK
	}
	return r.number(aNode)
}

// list reads node by node, since one that may not be counts ahead of an end behind it.
func (r *reader) list() ([]int, api.Errno) {
	n, e := r.number(aCount)
	if e != api.OK {
		return nil, e
	}
	l := make([]int, n)
	for i := range l {
		if l[i], e = r.number(aNode); e != api.OK {
			return nil, e
		}
	}
	return l, api.OK
}

func (r *reader) bytes() ([]byte, api.Errno) {
	n, e := r.number(aLength)
	if e != api.OK {
		return nil, e
	}
	b, e := r.take(n)
	return bytes.Clone(b), e
}
