package ots

import (
	"lattice/api"
	"lattice/sha"
)

const (
	nameSize = 16
	leafSize = nameSize + 4
	headSize = leafSize + 2
)

// leaf is a name and a number: whatever is hashed has them ahead, so that no hash serves for two leaves.
type leaf [leafSize]byte

func leafOf(name [nameSize]byte, q int) leaf {
	var l leaf
	copy(l[:], name[:])
	number := four(uint32(q))
	copy(l[nameSize:], number[:])
	return l
}

// head is what stands ahead in a hash: the leaf, and a chain's number or a tag.
func (l leaf) head(mark uint16) [headSize]byte {
	var h [headSize]byte
	copy(h[:], l[:])
	h[leafSize] = byte(mark >> 8)
	h[leafSize+1] = byte(mark)
	return h
}

// step is the hash of t under a chain's number and a step's.
func (l leaf) step(i, j int, t api.Id) api.Id {
	var b [headSize + 1 + hashSize]byte
	head := l.head(uint16(i))
	copy(b[:], head[:])
	b[headSize] = byte(j)
	copy(b[headSize+1:], t[:])
	return sha.Sum(b[:])
}

// start is what a seed gives for chain i.
func (l leaf) start(i int, seed api.Id) api.Id {
	return l.step(i, drawn, seed)
}

// walk goes the steps of chain i from one number up to another, the latter left out.
func (l leaf) walk(i, from, to int, t api.Id) api.Id {
	for j := from; j < to; j++ {
		t = l.step(i, j, t)
	}
	return t
}

// public is the hash of all chains' ends.
func (l leaf) public(ends links) api.Id {
	var b [headSize + chains*hashSize]byte
	head := l.head(publicTag)
	copy(b[:], head[:])
	for i, end := range ends {
		copy(b[headSize+i*hashSize:], end[:])
	}
	return sha.Sum(b[:])
}

// text is the hash of a text under its salt.
func (l leaf) text(salt api.Id, msg []byte) api.Id {
	var b [headSize + hashSize]byte
	head := l.head(textTag)
	copy(b[:], head[:])
	copy(b[headSize:], salt[:])
	return sha.Pair(b[:], msg)
}
