package tree

import (
	"bytes"

	"lattice/api"
)

// survey goes through all that a tree's top leads to.
type survey struct {
	shelf shelf
	met   map[api.Id]part // the blocks that were met, each with what it must be right for; an inode's none
}

// isTree tells whether all that node leads to is there, and may be.
func (s survey) isTree(node api.Id) bool {
	// By depths, what is met twice at one of them gone through once: ways may double where blocks do not.
	level := map[api.Id]struct{}{node: {}}
	for range api.MaxDepth + 1 {
		next := make(map[api.Id]struct{})
		for id := range level {
			l, ok := s.entries(id)
			if !ok {
				return false
			}
			for _, x := range l {
				next[x.Node] = struct{}{}
			}
		}
		level = next
	}
	// Paths to these would have a name too many.
	return len(level) == 0
}

// entries is what an inode leads to, of a file nothing, and whether it and its bytes may be.
func (s survey) entries(id api.Id) ([]api.Entry, bool) {
	n, e := s.shelf.inode(id)
	if e != api.OK || n.Size > 0 && !s.isWhole(part{n.Top, n.Levels, n.Size}) {
		return nil, false
	}
	s.met[id] = part{}
	if n.Kind != api.Dir {
		return nil, true
	}
	l, e := s.shelf.entries(n)
	return l, e == api.OK
}

// isWhole tells whether all blocks of a part are there, and just as it asks.
func (s survey) isWhole(p part) bool {
	// A block is right for no two parts: what stands below it has one height and one length.
	if was, ok := s.met[p.top]; ok {
		return was == p
	}
	s.met[p.top] = p
	if p.levels == 0 {
		_, e := s.shelf.row(p)
		return e == api.OK
	}
	l, e := s.shelf.inner(p.top)
	if e != api.OK || len(l) != p.hashes() {
		return false
	}
	for i, id := range l {
		if !s.isWhole(p.below(i, id)) {
			return false
		}
	}
	return true
}

// isAll tells whether l, in which all that was met is, is just that, rising, without sources and times.
func (s survey) isAll(l []api.Block) bool {
	for i, b := range l {
		if _, ok := s.met[b.Key]; !ok || b.Source != 0 || b.Expires != 0 {
			return false
		}
		if i > 0 && bytes.Compare(l[i-1].Key[:], b.Key[:]) >= 0 {
			return false
		}
	}
	return true
}
