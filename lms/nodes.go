package lms

import (
	"lattice/api"
	"lattice/ots"
	"lattice/sha"
)

const (
	leafTag  = 0x82
	aboveTag = 0x83
	headSize = nameSize + numberSize + 2
)

// nodes are a tree's hashes by their numbers: 1 is the top, 2 r and 2 r + 1 are below r, the leaves come last.
type nodes [2 << maxHeight]api.Id

func grow(name [nameSize]byte, seed api.Id, h int) nodes {
	var t nodes
	first := leaves(h)
	for q := range first {
		t[first+q] = leaf(name, first+q, ots.Public(name, q, seed))
	}
	for r := first - 1; r > 0; r-- {
		t[r] = above(name, r, t[2*r], t[2*r+1])
	}
	return t
}

// leaf is the hash of node r, with that key for once.
func leaf(name [nameSize]byte, r int, once api.Id) api.Id {
	var b [headSize + hashSize]byte
	head := headOf(name, r, leafTag)
	copy(b[:], head[:])
	copy(b[headSize:], once[:])
	return sha.Sum(b[:])
}

// above is the hash of node r, with those two below it.
func above(name [nameSize]byte, r int, left, right api.Id) api.Id {
	var b [headSize + 2*hashSize]byte
	head := headOf(name, r, aboveTag)
	copy(b[:], head[:])
	copy(b[headSize:], left[:])
	copy(b[headSize+hashSize:], right[:])
	return sha.Sum(b[:])
}

// headOf stands ahead in a hash: by it no hash serves for two nodes, and no leaf for a node above.
func headOf(name [nameSize]byte, r int, tag byte) [headSize]byte {
	var b [headSize]byte
	copy(b[:], name[:])
	number := fourOf(r)
	copy(b[nameSize:], number[:])
	b[headSize-2], b[headSize-1] = tag, tag
	return b
}
