package lms

import "lattice/api"

// key is what a public key says.
type key struct {
	name   [nameSize]byte
	height int
	top    api.Id
}

func (k key) bytes() []byte {
	b := make([]byte, publicSize)
	putNumber(b, k.height)
	putNumber(b[onceTypeAt:], onceType)
	copy(b[nameAt:], k.name[:])
	copy(b[topAt:], k.top[:])
	return b
}

// keyOf reads a public key; false where there is none.
func keyOf(b []byte) (key, bool) {
	if len(b) != publicSize {
		return key{}, false
	}
	// Held against the bound as it was read: as an int a great number might be negative.
	height := numberAt(b, 0)
	if height < 1 || height > maxHeight || numberAt(b, onceTypeAt) != onceType {
		return key{}, false
	}
	k := key{height: int(height), top: hashAt(b, topAt)}
	copy(k.name[:], b[nameAt:])
	return k, true
}

// climb is the top of the tree that has that key for once at leaf q, and that path beside the way up.
func (k key) climb(q int, once api.Id, path []byte) api.Id {
	r := leaves(k.height) + q
	t := leaf(k.name, r, once)
	for i := range k.height {
		beside := hashAt(path, i*hashSize)
		if r%2 == 0 {
			t = above(k.name, r/2, t, beside)
		} else {
			t = above(k.name, r/2, beside, t)
		}
		r /= 2
	}
	return t
}
