package tree

import (
	"bytes"
	"slices"

	"lattice/api"
	"lattice/blob"
	"lattice/names"
	"lattice/sha"
)

// shelf is blocks by their hashes.
type shelf map[api.Id]api.Block

// shelfOf is those of l whose Key is their hash.
func shelfOf(l []api.Block) shelf {
	s := make(shelf, len(l))
	for _, b := range l {
		if _, ok := s[b.Key]; !ok && sha.Sum(b.Data) == b.Key {
			s[b.Key] = b
		}
	}
	return s
}

// put lays a block of b there, which nobody else has: its hash.
func (s shelf) put(b []byte) api.Id {
	id := sha.Sum(b)
	s[id] = api.Block{Key: id, Data: b}
	return id
}

// rising is all blocks, by their hashes.
func (s shelf) rising() []api.Block {
	l := make([]api.Block, 0, len(s))
	for _, b := range s {
		l = append(l, b)
	}
	slices.SortFunc(l, func(a, b api.Block) int { return bytes.Compare(a.Key[:], b.Key[:]) })
	return l
}

// get is the bytes of a hash, as they stand there.
func (s shelf) get(id api.Id) ([]byte, api.Errno) {
	b, ok := s[id]
	if !ok {
		return nil, api.ErrGone
	}
	return b.Data, api.OK
}

// inode is the one that a block says.
func (s shelf) inode(id api.Id) (api.Inode, api.Errno) {
	b, e := s.get(id)
	if e != api.OK {
		return api.Inode{}, e
	}
	return blob.ParseInode(b)
}

// find is the inode that a path leads to from a top directory's block on.
func (s shelf) find(node api.Id, path string) (api.Inode, api.Errno) {
	l, e := names.Split(path)
	if e != api.OK {
		return api.Inode{}, e
	}
	n, e := s.inode(node)
	for i := 0; e == api.OK && i < len(l); i++ {
		n, e = s.child(n, l[i])
	}
	return n, e
}

// child is the inode that a directory has under a name.
func (s shelf) child(n api.Inode, name string) (api.Inode, api.Errno) {
	l, e := s.entries(n)
	if e != api.OK {
		return api.Inode{}, e
	}
	for _, x := range l {
		if x.Name == name {
			return s.inode(x.Node)
		}
	}
	return api.Inode{}, api.ErrNone
}

// entries is those of a directory.
func (s shelf) entries(n api.Inode) ([]api.Entry, api.Errno) {
	if n.Kind != api.Dir {
		return nil, api.ErrKind
	}
	b, e := s.bytes(n, 0, n.Size)
	if e != api.OK {
		return nil, e
	}
	return blob.ParseDir(b)
}
