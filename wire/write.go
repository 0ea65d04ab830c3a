package wire

import "lattice/api"

// writer has the bytes so far.
type writer struct {
	b []byte
}

// part writes m's p.
func (w *writer) part(p part, m *api.Msg) api.Errno {
	switch p {
	case partPred:
		return w.pred(m.Pred)
	case partNode:
		return w.number(aNode, m.Node, api.ErrArg)
	case partList:
		return w.list(m.List)
	case partDone:
		w.done(m.Done)
		return api.OK
	case partErr:
		return w.number(anErr, int(m.Err), api.ErrArg)
	case partKey:
		w.b = append(w.b, m.Key[:]...)
		return api.OK
	case partData:
		return w.bytes(m.Data)
	}
	return w.number(aTime, m.Lease, api.ErrArg)
}

// number writes n, or answers e if it is none of the form f.
func (w *writer) number(f form, n int, e api.Errno) api.Errno {
	size, least, most := bounds(f)
	if n < least || n > most {
		return e
	}
	for k := size - 1; k >= 0; k-- {
		w.b = append(w.b, byte(n>>(8*k)))
	}
	return api.OK
}

func (w *writer) pred(node int) api.Errno {
	if node == noNode {
		w.b = append(w.b, noNodeByte)
		return api.OK
	}
	return w.number(aNode, node, api.ErrArg)
}

func (w *writer) done(is bool) {
	if is {
		w.b = append(w.b, 1)
	} else {
		w.b = append(w.b, 0)
	}
}

// list asks how many there are ahead of which, as they are written.
func (w *writer) list(l []int) api.Errno {
	if e := w.number(aCount, len(l), api.ErrMany); e != api.OK {
		return e
	}
	for _, node := range l {
		if e := w.number(aNode, node, api.ErrArg); e != api.OK {
			return e
		}
	}
	return api.OK
}

func (w *writer) bytes(b []byte) api.Errno {
	if e := w.number(aLength, len(b), api.ErrLong); e != api.OK {
		return e
	}
	w.b = append(w.b, b...)
	return api.OK
}
