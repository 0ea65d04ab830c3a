package tree

import (
	"lattice/api"
	"lattice/blob"
)

const (
	dataMark = 'd'
	rowAt    = 1 // behind the mark
)

// part is the bytes that lie below one block: how many levels it stands above the data blocks, how many bytes there are, one at least.
type part struct {
	top          api.Id
	levels, size int
}

// roomOf is the most bytes that lie below a block so many levels up.
func roomOf(levels int) int {
	room := api.MaxBlock
	for range levels {
		room *= api.MaxHashes
	}
	return room
}

// room is how many bytes lie below each hash of an inner block, but the last one.
func (p part) room() int { return roomOf(p.levels - 1) }

// hashes is how many of them an inner block has.
func (p part) hashes() int { return (p.size + p.room() - 1) / p.room() }

// below is the part of the i-th hash, id, of an inner block.
func (p part) below(i int, id api.Id) part {
	return part{top: id, levels: p.levels - 1, size: min(p.room(), p.size-i*p.room())}
}

// bytes is those of an inode from one place up to another.
func (s shelf) bytes(n api.Inode, from, to int) ([]byte, api.Errno) {
	// No block is needed then, and a file without bytes has none.
	if from >= to {
		return nil, api.OK
	}
	b := make([]byte, to-from)
	if e := s.fill(b, part{n.Top, n.Levels, n.Size}, from); e != api.OK {
		return nil, e
	}
	return b, api.OK
}

// fill writes the bytes of p to b, from one place on, as many as b has.
func (s shelf) fill(b []byte, p part, from int) api.Errno {
	if p.levels == 0 {
		row, e := s.row(p)
		if e == api.OK {
			copy(b, row[from:])
		}
		return e
	}
	l, e := s.inner(p.top)
	if e != api.OK {
		return e
	}
	for len(b) > 0 {
		i, at := from/p.room(), from%p.room()
		if i >= len(l) {
			return api.ErrBad
		}
		next := p.below(i, l[i])
		n := min(len(b), next.size-at)
		if e := s.fill(b[:n], next, at); e != api.OK {
			return e
		}
		b, from = b[n:], from+n
	}
	return api.OK
}

// inner is the hashes of an inner block.
func (s shelf) inner(id api.Id) ([]api.Id, api.Errno) {
	b, e := s.get(id)
	if e != api.OK {
		return nil, e
	}
	l, e := blob.ParseInner(b)
	if e != api.OK {
		return nil, api.ErrBad
	}
	return l, api.OK
}

// row is the bytes of a data block, as they stand there.
func (s shelf) row(p part) ([]byte, api.Errno) {
	b, e := s.get(p.top)
	if e != api.OK {
		return nil, e
	}
	if len(b) != rowAt+p.size || b[0] != dataMark {
		return nil, api.ErrBad
	}
	return b[rowAt:], api.OK
}
