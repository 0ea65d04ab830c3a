package blob

import "lattice/api"

const innerMark = 'n'

// Where the parts of an inner block stand.
const (
	countAt  = 1
	hashesAt = countAt + 1
)

// Inner is a block of hashes.
func Inner(l []api.Id) ([]byte, api.Errno) {
	if len(l) == 0 {
		return nil, api.ErrArg
	}
	if len(l) > api.MaxHashes {
		return nil, api.ErrMany
	}
	b := make([]byte, hashesAt+len(l)*idSize)
	b[0], b[countAt] = innerMark, byte(len(l))
	rest := b[hashesAt:]
	for _, id := range l {
		rest = rest[copy(rest, id[:]):]
	}
	return b, api.OK
}

// ParseInner is the hashes of such a block.
func ParseInner(b []byte) ([]api.Id, api.Errno) {
	if len(b) < hashesAt {
		return nil, api.ErrCut
	}
	count := int(b[countAt])
	if b[0] != innerMark || count == 0 || count > api.MaxHashes {
		return nil, api.ErrBad
	}
	if e := ends(b, hashesAt+count*idSize); e != api.OK {
		return nil, e
	}
	l, rest := make([]api.Id, count), b[hashesAt:]
	for i := range l {
		rest = rest[copy(l[i][:], rest):]
	}
	return l, api.OK
}
