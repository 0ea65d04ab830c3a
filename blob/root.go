package blob

import (
	"bytes"

	"lattice/api"
)

const (
	rootMark   = 'r'
	publicSize = 56
	maxVersion = 1<<31 - 1
	maxSig     = 5000
	claimMark  = "lattice"
)

// Where the parts of a root stand.
const (
	publicAt  = 1
	versionAt = publicAt + publicSize
	nodeAt    = versionAt + numberSize
	lengthAt  = nodeAt + idSize
	sigAt     = lengthAt + lengthSize
)

// Claim is what a root's signature is of.
func Claim(version int, node api.Id) []byte {
	b := make([]byte, len(claimMark)+numberSize+idSize)
	rest := b[copy(b, claimMark):]
	put(rest[:numberSize], version)
	copy(rest[numberSize:], node[:])
	return b
}

// Root is a signed tree's block.
func Root(r api.Root) ([]byte, api.Errno) {
	if len(r.Public) != publicSize || !isVersion(r.Version) {
		return nil, api.ErrArg
	}
	if len(r.Sig) > maxSig {
		return nil, api.ErrLong
	}
	b := make([]byte, sigAt+len(r.Sig))
	b[0] = rootMark
	copy(b[publicAt:], r.Public)
	put(b[versionAt:nodeAt], r.Version)
	copy(b[nodeAt:], r.Node[:])
	put(b[lengthAt:sigAt], len(r.Sig))
	copy(b[sigAt:], r.Sig)
	return b, api.OK
}

func isVersion(n int) bool { return n > 0 && n <= maxVersion }

// ParseRoot is the signed tree that a block says; whether the signature is one is not asked.
func ParseRoot(b []byte) (api.Root, api.Errno) {
	if len(b) < sigAt {
		return api.Root{}, api.ErrCut
	}
	version, length := number(b[versionAt:nodeAt]), number(b[lengthAt:sigAt])
	if b[0] != rootMark || !isVersion(version) || length > maxSig {
		return api.Root{}, api.ErrBad
	}
	if e := ends(b, sigAt+length); e != api.OK {
		return api.Root{}, e
	}
	r := api.Root{Public: bytes.Clone(b[publicAt:versionAt]), Version: version, Sig: bytes.Clone(b[sigAt:])}
	copy(r.Node[:], b[nodeAt:])
	return r, api.OK
}
