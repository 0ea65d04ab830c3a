package blob

import (
	"cmp"
	"encoding/hex"
	"fmt"
	"reflect"
	"regexp"
	"slices"
	"sort"
	"strconv"
	"strings"
	"testing"

	"lattice/api"
	"lattice/names"
)

// What chapter 9 promises, said anew: in hexadecimal digits, by shapes and tables.

const (
	zeros = "0000000000000000000000000000000000000000000000000000000000000000"
	steps = "000102030405060708090a0b0c0d0e0f101112131415161718191a1b1c1d1e1f"
	back  = "fffefdfcfbfaf9f8f7f6f5f4f3f2f1f0efeeedecebeae9e8e7e6e5e4e3e2e1e0"
)

// raw is the bytes of hexadecimal digits, blanks between them or not.
func raw(digits string) []byte {
	b, err := hex.DecodeString(strings.ReplaceAll(digits, " ", ""))
	if err != nil {
		panic(err)
	}
	return b
}

func idOf(digits string) api.Id { return api.Id(raw(digits)) }

// nth is an id of which no two bytes are the same, another one for each n.
func nth(n int) (id api.Id) {
	for i := range id {
		id[i] = byte(n*41 + i*7)
	}
	return id
}

func num(digits string) int {
	n, err := strconv.ParseUint(digits, 16, 32)
	if err != nil {
		panic(err)
	}
	return int(n)
}

// greatest is the greatest size of each number of levels.
var greatest = []int{64, 512, 4096, 32768, 262144, 2097152, 16777216, 134217728}

func rightLevels(size int) int { return sort.SearchInts(greatest, size) }

func saidInode(n api.Inode) (string, api.Errno) {
	kind := map[int]string{1: "01", 2: "02"}[n.Kind]
	switch {
	case kind == "":
		return "", api.ErrKind
	case n.Size < 0, n.Size > 1048576, n.Levels != rightLevels(n.Size), n.Size == 0 && n.Top != idOf(zeros):
		return "", api.ErrArg
	}
	return fmt.Sprintf("69%s%08x%02x%x", kind, n.Size, n.Levels, n.Top[:]), api.OK
}

var inodeShape = regexp.MustCompile(`^69(01|02)([0-9a-f]{8})([0-9a-f]{2})([0-9a-f]{64})`)

func saidParseInode(b []byte) (api.Inode, api.Errno) {
	digits := hex.EncodeToString(b)
	if len(digits) < 78 {
		return api.Inode{}, api.ErrCut
	}
	m := inodeShape.FindStringSubmatch(digits)
	if m == nil {
		return api.Inode{}, api.ErrBad
	}
	n := api.Inode{Kind: num(m[1]), Size: num(m[2]), Levels: num(m[3]), Top: idOf(m[4])}
	if _, e := saidInode(n); e != api.OK {
		return api.Inode{}, api.ErrBad
	}
	if len(digits) > 78 {
		return api.Inode{}, api.ErrMore
	}
	return n, api.OK
}

func saidInner(l []api.Id) (string, api.Errno) {
	switch {
	case len(l) < 1:
		return "", api.ErrArg
	case len(l) > 8:
		return "", api.ErrMany
	}
	digits := fmt.Sprintf("6e%02x", len(l))
	for _, id := range l {
		digits += fmt.Sprintf("%x", id[:])
	}
	return digits, api.OK
}

var innerShape = regexp.MustCompile(`^6e0([1-8])(.*)$`)

func saidParseInner(b []byte) ([]api.Id, api.Errno) {
	digits := hex.EncodeToString(b)
	if len(digits) < 4 {
		return nil, api.ErrCut
	}
	m := innerShape.FindStringSubmatch(digits)
	if m == nil {
		return nil, api.ErrBad
	}
	switch cmp.Compare(len(m[2]), 64*num(m[1])) {
	case -1:
		return nil, api.ErrCut
	case 1:
		return nil, api.ErrMore
	}
	var l []api.Id
	for id := range slices.Chunk([]byte(m[2]), 64) {
		l = append(l, idOf(string(id)))
	}
	return l, api.OK
}

func saidDir(l []api.Entry) (string, api.Errno) {
	var texts []string
	digits := ""
	for _, x := range l {
		if e := names.Check(x.Name); e != api.OK {
			return "", e
		}
		texts = append(texts, x.Name)
		digits += fmt.Sprintf("%02x%x%x", len(x.Name), x.Name, x.Node[:])
	}
	rising := slices.Clone(texts)
	slices.Sort(rising)
	if !slices.Equal(texts, slices.Compact(rising)) {
		return "", api.ErrArg
	}
	if len(l) > 20 {
		return "", api.ErrMany
	}
	return digits, api.OK
}

func saidParseDir(b []byte) ([]api.Entry, api.Errno) {
	var l []api.Entry
	for digits := hex.EncodeToString(b); digits != ""; {
		name := 2 + 2*num(digits[:2])
		if len(digits) < name+64 {
			return nil, api.ErrCut
		}
		l = append(l, api.Entry{Name: string(raw(digits[2:name])), Node: idOf(digits[name : name+64])})
		digits = digits[name+64:]
	}
	if _, e := saidDir(l); e != api.OK {
		return nil, e
	}
	return l, api.OK
}

func saidRoot(r api.Root) (string, api.Errno) {
	switch {
	case len(r.Public) != 56, r.Version < 1, r.Version > 2147483647:
		return "", api.ErrArg
	case len(r.Sig) > 5000:
		return "", api.ErrLong
	}
	return fmt.Sprintf("72%x%08x%x%04x%x", r.Public, r.Version, r.Node[:], len(r.Sig), r.Sig), api.OK
}

var rootShape = regexp.MustCompile(`^72([0-9a-f]{112})([0-7][0-9a-f]{7})([0-9a-f]{64})([01][0-9a-f]{3})(.*)$`)

func saidParseRoot(b []byte) (api.Root, api.Errno) {
	digits := hex.EncodeToString(b)
	if len(digits) < 190 {
		return api.Root{}, api.ErrCut
	}
	m := rootShape.FindStringSubmatch(digits)
	if m == nil || m[2] == "00000000" || m[4] > "1388" {
		return api.Root{}, api.ErrBad
	}
	switch cmp.Compare(len(m[5]), 2*num(m[4])) {
	case -1:
		return api.Root{}, api.ErrCut
	case 1:
		return api.Root{}, api.ErrMore
	}
	return api.Root{Public: raw(m[1]), Version: num(m[2]), Node: idOf(m[3]), Sig: raw(m[5])}, api.OK
}

// shown is the front of something, that a fault be told in a line.
func shown(x any) string {
	text := fmt.Sprintf("%x", x)
	return text[:min(len(text), 300)]
}

// tryWritten holds what a writer answered against the digits that are to stand there; beside an error nothing.
func tryWritten(t testing.TB, of any, b []byte, e api.Errno, digits string, errno api.Errno) {
	t.Helper()
	if e != errno || hex.EncodeToString(b) != strings.ReplaceAll(digits, " ", "") {
		t.Fatalf("%s: %s, %v, not %s, %v", shown(of), shown(b), e, shown(digits), errno)
	}
}

// tryRead holds what a reader answered against what is to be read; beside an error nothing.
func tryRead(t testing.TB, of []byte, got any, e api.Errno, want any, errno api.Errno) {
	t.Helper()
	if e != errno || !reflect.DeepEqual(got, want) {
		t.Fatalf("%s: %s, %v, not %s, %v", shown(of), shown(got), e, shown(want), errno)
	}
}

// A list is compared by what it has: none and empty are the same.

func flat[T any](l []T) []T { return append([]T{}, l...) }

func flatRoot(r api.Root) api.Root {
	r.Public, r.Sig = flat(r.Public), flat(r.Sig)
	return r
}

// Each try asks a call, holds it against what was said anew, and turns what went well round (P905).

func tryInode(t testing.TB, n api.Inode) {
	t.Helper()
	digits, errno := saidInode(n)
	b, e := Inode(n)
	tryWritten(t, n, b, e, digits, errno)
	if e == api.OK {
		got, e := ParseInode(b)
		tryRead(t, b, got, e, n, api.OK)
	}
}

func tryParseInode(t testing.TB, b []byte) {
	t.Helper()
	want, errno := saidParseInode(b)
	n, e := ParseInode(b)
	tryRead(t, b, n, e, want, errno)
	if e == api.OK {
		again, e := Inode(n)
		tryWritten(t, n, again, e, hex.EncodeToString(b), api.OK)
	}
}

func tryInner(t testing.TB, l []api.Id) {
	t.Helper()
	digits, errno := saidInner(l)
	b, e := Inner(l)
	tryWritten(t, l, b, e, digits, errno)
	if e == api.OK {
		got, e := ParseInner(b)
		tryRead(t, b, got, e, l, api.OK)
	}
}

func tryParseInner(t testing.TB, b []byte) {
	t.Helper()
	want, errno := saidParseInner(b)
	l, e := ParseInner(b)
	tryRead(t, b, flat(l), e, flat(want), errno)
	if e == api.OK {
		again, e := Inner(l)
		tryWritten(t, l, again, e, hex.EncodeToString(b), api.OK)
	}
}

func tryDir(t testing.TB, l []api.Entry) {
	t.Helper()
	digits, errno := saidDir(l)
	b, e := Dir(l)
	tryWritten(t, l, b, e, digits, errno)
	if e == api.OK {
		got, e := ParseDir(b)
		tryRead(t, b, flat(got), e, flat(l), api.OK)
	}
}

func tryParseDir(t testing.TB, b []byte) {
	t.Helper()
	want, errno := saidParseDir(b)
	l, e := ParseDir(b)
	tryRead(t, b, flat(l), e, flat(want), errno)
	if e == api.OK {
		again, e := Dir(l)
		tryWritten(t, l, again, e, hex.EncodeToString(b), api.OK)
	}
}

func tryRoot(t testing.TB, r api.Root) {
	t.Helper()
	digits, errno := saidRoot(r)
	b, e := Root(r)
	tryWritten(t, r, b, e, digits, errno)
	if e == api.OK {
		got, e := ParseRoot(b)
		tryRead(t, b, flatRoot(got), e, flatRoot(r), api.OK)
	}
}

func tryParseRoot(t testing.TB, b []byte) {
	t.Helper()
	want, errno := saidParseRoot(b)
	r, e := ParseRoot(b)
	tryRead(t, b, flatRoot(r), e, flatRoot(want), errno)
	if e == api.OK {
		again, e := Root(r)
		tryWritten(t, r, again, e, hex.EncodeToString(b), api.OK)
	}
}

// tryFronts reads each front of b, and b with more behind: as it was said anew, and by what it must be where b is a block.
func tryFronts(t testing.TB, b []byte, try func(testing.TB, []byte)) {
	t.Helper()
	for k := range len(b) + 1 {
		try(t, b[:k:k])
	}
	for _, more := range []string{"\x00", "i", "n", "r", string(b), strings.Repeat("\xff", 300)} {
		try(t, append(slices.Clone(b), more...))
	}
}

// tryEveryByte reads b with each byte turned into each other one, with its last byte missing, and with one more, too.
func tryEveryByte(t testing.TB, b []byte, try func(testing.TB, []byte)) {
	t.Helper()
	for at := range b {
		for value := range 256 {
			turned := slices.Clone(b)
			turned[at] = byte(value)
			try(t, turned)
			try(t, turned[:len(b)-1])
			try(t, append(turned, 0))
		}
	}
}
