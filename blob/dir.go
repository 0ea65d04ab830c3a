package blob

import (
	"lattice/api"
	"lattice/names"
)

const nameAt = 1 // behind its length

// Dir is the bytes of a directory's file.
func Dir(l []api.Entry) ([]byte, api.Errno) {
	if e := checkEntries(l); e != api.OK {
		return nil, e
	}
	size := 0
	for _, x := range l {
		size += entrySize(len(x.Name))
	}
	b := make([]byte, size)
	rest := b
	for _, x := range l {
		// No name that may be is too long for a byte.
		rest[0] = byte(len(x.Name))
		rest = rest[nameAt:]
		rest = rest[copy(rest, x.Name):]
		rest = rest[copy(rest, x.Node[:]):]
	}
	return b, api.OK
}

// entrySize is how many bytes an entry has whose name has so many.
func entrySize(name int) int { return nameAt + name + idSize }

// checkEntries tells why these are no directory's.
func checkEntries(l []api.Entry) api.Errno {
	for _, x := range l {
		if e := names.Check(x.Name); e != api.OK {
			return e
		}
	}
	for i := 1; i < len(l); i++ {
		if l[i-1].Name >= l[i].Name {
			return api.ErrArg
		}
	}
	if len(l) > api.MaxItems {
		return api.ErrMany
	}
	return api.OK
}

// ParseDir is the entries of such bytes.
func ParseDir(b []byte) ([]api.Entry, api.Errno) {
	var l []api.Entry
	for len(b) > 0 {
		size := entrySize(int(b[0]))
		if len(b) < size {
			return nil, api.ErrCut
		}
		l = append(l, entry(b[:size]))
		b = b[size:]
	}
	// Only behind the last byte: an end within an entry goes ahead of these.
	if e := checkEntries(l); e != api.OK {
		return nil, e
	}
	return l, api.OK
}

// entry is what b says, which has just an entry's bytes.
func entry(b []byte) api.Entry {
	nameEnd := len(b) - idSize
	x := api.Entry{Name: string(b[nameAt:nameEnd])}
	copy(x.Node[:], b[nameEnd:])
	return x
}
