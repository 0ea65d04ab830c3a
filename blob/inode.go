package blob

import (
	"bytes"

	"lattice/api"
)

const (
	inodeMark = 'i'
	maxSize   = 1 << 20 // bytes that an inode may speak of
)

// Where the parts of an inode stand.
const (
	kindAt   = 1
	sizeAt   = kindAt + 1
	levelsAt = sizeAt + numberSize
	topAt    = levelsAt + 1
	inodeEnd = topAt + idSize
)

// Inode is an inode's block.
func Inode(n api.Inode) ([]byte, api.Errno) {
	if n.Kind != api.File && n.Kind != api.Dir {
		return nil, api.ErrKind
	}
	if !isSized(n) {
		return nil, api.ErrArg
	}
	b := make([]byte, inodeEnd)
	b[0], b[kindAt], b[levelsAt] = inodeMark, byte(n.Kind), byte(n.Levels)
	put(b[sizeAt:levelsAt], n.Size)
	copy(b[topAt:], n.Top[:])
	return b, api.OK
}

// isSized tells whether n's size may be, and the rest of n fits it.
func isSized(n api.Inode) bool {
	// The bounds go ahead: only of a size within them are there levels.
	if n.Size < 0 || n.Size > maxSize || n.Levels != levelsOf(n.Size) {
		return false
	}
	return n.Size > 0 || n.Top == api.Id{}
}

// levelsOf is how many levels of inner blocks so many bytes ask.
func levelsOf(size int) int {
	levels := 0
	for most := api.MaxBlock; most < size; most *= api.MaxHashes {
		levels++
	}
	return levels
}

// ParseInode is the inode that a block says.
func ParseInode(b []byte) (api.Inode, api.Errno) {
	if len(b) < inodeEnd {
		return api.Inode{}, api.ErrCut
	}
	n := api.Inode{Kind: int(b[kindAt]), Size: number(b[sizeAt:levelsAt]), Levels: int(b[levelsAt])}
	copy(n.Top[:], b[topAt:])
	// Of any other inode something else would be written.
	again, e := Inode(n)
	if e != api.OK || !bytes.Equal(again, b[:inodeEnd]) {
		return api.Inode{}, api.ErrBad
	}
	if len(b) > inodeEnd {
		return api.Inode{}, api.ErrMore
	}
	return n, api.OK
}
