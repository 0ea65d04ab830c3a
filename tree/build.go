package tree

import (
	"slices"

	"lattice/api"
	"lattice/blob"
	"lattice/names"
)

// file is an item, its path cut into names.
type file struct {
	names []string
	data  []byte
}

// filesOf is the files of some items, by their names, or why these are no tree's.
func filesOf(l []api.Item) ([]file, api.Errno) {
	if len(l) > api.MaxItems {
		return nil, api.ErrMany
	}
	files := make([]file, len(l))
	for i, x := range l {
		var e api.Errno
		if files[i], e = fileOf(x); e != api.OK {
			return nil, e
		}
	}
	// By names, not by paths: of paths, /a-b would stand between /a and /a/b.
	slices.SortFunc(files, func(a, b file) int { return slices.Compare(a.names, b.names) })
	for i := 1; i < len(files); i++ {
		// If any leads through a file, the one right behind it does.
		if leads(files[i].names, files[i-1].names) {
			return nil, api.ErrIs
		}
	}
	return files, api.OK
}

func fileOf(x api.Item) (file, api.Errno) {
	l, e := names.Split(x.Path)
	if e != api.OK {
		return file{}, e
	}
	if len(l) == 0 {
		return file{}, api.ErrName
	}
	if len(x.Data) > api.MaxFile {
		return file{}, api.ErrLong
	}
	return file{names: l, data: x.Data}, api.OK
}

// leads tells whether a path is another one, or leads through it.
func leads(path, other []string) bool {
	return len(path) >= len(other) && slices.Equal(path[:len(other)], other)
}

// putDir puts the blocks of a directory, and of all below it: the hash of its inode block. So many names lead to it, the same ones to each of l.
func (s shelf) putDir(l []file, depth int) api.Id {
	var entries []api.Entry
	for len(l) > 0 {
		name := l[0].names[depth]
		same := 1
		for same < len(l) && l[same].names[depth] == name {
			same++
		}
		entries = append(entries, api.Entry{Name: name, Node: s.putEntry(l[:same], depth+1)})
		l = l[same:]
	}
	// Names that may be, rising, no more than there are items: nothing that is refused.
	b, _ := blob.Dir(entries)
	return s.putFile(api.Dir, b)
}

// putEntry puts the blocks of what so many names lead to, the same ones of each of l.
func (s shelf) putEntry(l []file, depth int) api.Id {
	// A file is alone here: no other one's path leads through its own.
	if len(l[0].names) == depth {
		return s.putFile(api.File, l[0].data)
	}
	return s.putDir(l, depth)
}

// putFile puts a file's blocks: the hash of its inode block.
func (s shelf) putFile(kind int, b []byte) api.Id {
	n := api.Inode{Kind: kind, Size: len(b)}
	level := s.putRows(b)
	for len(level) > 1 {
		level = s.putInners(level)
		n.Levels++
	}
	if len(level) > 0 {
		n.Top = level[0]
	}
	// So many levels are what its size asks, and no size here is too great.
	node, _ := blob.Inode(n)
	return s.put(node)
}

// putRows puts the data blocks of some bytes: their hashes.
func (s shelf) putRows(b []byte) []api.Id {
	var l []api.Id
	for row := range slices.Chunk(b, api.MaxBlock) {
		data := make([]byte, rowAt+len(row))
		data[0] = dataMark
		copy(data[rowAt:], row)
		l = append(l, s.put(data))
	}
	return l
}

// putInners puts the inner blocks of a level's hashes: their hashes.
func (s shelf) putInners(level []api.Id) []api.Id {
	var l []api.Id
	for some := range slices.Chunk(level, api.MaxHashes) {
		// One at least, and no more than may be.
		b, _ := blob.Inner(some)
		l = append(l, s.put(b))
	}
	return l
}
