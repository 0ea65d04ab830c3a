package blob

import (
	"bytes"
	"encoding/hex"
	"fmt"
	"math/rand"
	"slices"
	"testing"

	"lattice/api"
)

const (
	spare   = 40 // bytes behind what is handed in that are not its own
	unused  = 0x5a
	trodden = 0xee
)

// roomy is b with room behind it that is somebody else's.
func roomy(b []byte) []byte {
	room := append(slices.Clone(b), bytes.Repeat([]byte{unused}, spare)...)
	return room[:len(b)]
}

// whole is a list with its spare room.
func whole[T any](l []T) []T { return l[:cap(l)] }

// keptWhole tells whether room still holds b, and behind it what was there.
func keptWhole(room, b []byte) bool {
	all := whole(room)
	return bytes.HasPrefix(all, b) && bytes.Count(all[len(b):len(b)+spare], []byte{unused}) == spare
}

func tread(b []byte) {
	b = whole(b)
	for i := range b {
		b[i] = trodden
	}
}

// blocks are some of each kind.
func blocks() (inode, inner, dir, root []byte) {
	inode, _ = Inode(api.Inode{Kind: api.Dir, Size: 65, Levels: 1, Top: nth(4)})
	inner, _ = Inner(hashes(5))
	dir, _ = Dir(entries("a", "bb", "\u20ac"))
	root, _ = Root(aRoot())
	return inode, inner, dir, root
}

func TestP2WritersLeaveWhatIsHandedIn(t *testing.T) {
	ids := append(hashes(5), nth(90), nth(91))
	if _, e := Inner(ids[:5]); e != api.OK || !slices.Equal(ids, append(hashes(5), nth(90), nth(91))) {
		t.Errorf("%v, %v", ids, e)
	}
	l := append(entries("a", "b", "c"), api.Entry{Name: "spare", Node: nth(92)})
	if _, e := Dir(l[:3]); e != api.OK || !slices.Equal(l, append(entries("a", "b", "c"), api.Entry{Name: "spare", Node: nth(92)})) {
		t.Errorf("%v, %v", l, e)
	}
	// One that is refused stays as it was, too.
	l = entries("b", "a", "a")
	if _, e := Dir(l); e != api.ErrArg || !slices.Equal(l, entries("b", "a", "a")) {
		t.Errorf("%v, %v", l, e)
	}
	r := aRoot()
	r.Public, r.Sig = roomy(r.Public), roomy(r.Sig)
	if _, e := Root(r); e != api.OK || !keptWhole(r.Public, aPublic()) || !keptWhole(r.Sig, sigOf(5)) {
		t.Errorf("%v, %v", r, e)
	}
}

func TestP2ReadersLeaveWhatIsHandedIn(t *testing.T) {
	inode, inner, dir, root := blocks()
	for _, b := range [][]byte{inode, inner, dir, root, nil, inner[:40], dir[:40], root[:97], append(slices.Clone(root), 1), append(slices.Clone(inode), 1)} {
		room := roomy(b)
		ParseInode(room)
		ParseInner(room)
		ParseDir(room)
		ParseRoot(room)
		if !keptWhole(room, b) {
			t.Errorf("%x: %x", b, whole(room))
		}
	}
}

// What was handed in may be written over: the answer stays; and the answer with its spare room: what was handed in stays, and what is answered next.
func TestP2WrittenIsNew(t *testing.T) {
	ids, l, r := hashes(5), entries("a", "bb"), aRoot()
	calls := map[string]func() ([]byte, api.Errno){
		"Inode": func() ([]byte, api.Errno) { return Inode(api.Inode{Kind: api.File, Size: 3, Top: nth(2)}) },
		"Inner": func() ([]byte, api.Errno) { return Inner(ids) },
		"Dir":   func() ([]byte, api.Errno) { return Dir(l) },
		"Root":  func() ([]byte, api.Errno) { return Root(r) },
		"Claim": func() ([]byte, api.Errno) { return Claim(9, nth(2)), api.OK },
	}
	for name, call := range calls {
		one, e := call()
		want := slices.Clone(one)
		tread(one)
		two, again := call()
		if e != api.OK || again != api.OK || !bytes.Equal(two, want) {
			t.Errorf("%s: %x, %v, not %x", name, two, again, want)
		}
		if !slices.Equal(ids, hashes(5)) || !slices.Equal(l, entries("a", "bb")) || !bytes.Equal(r.Public, aPublic()) || !bytes.Equal(r.Sig, sigOf(5)) {
			t.Fatalf("%s lies in what is handed in", name)
		}
	}
	kept := map[string][]byte{}
	for name, call := range calls {
		kept[name], _ = call()
	}
	wants := map[string]string{}
	for name, b := range kept {
		wants[name] = hex.EncodeToString(b)
	}
	clear(ids)
	clear(l)
	tread(r.Public)
	tread(r.Sig)
	for name, b := range kept {
		if hex.EncodeToString(b) != wants[name] {
			t.Errorf("%s: %x, not %s", name, b, wants[name])
		}
	}
}

func TestP2ReadIsNew(t *testing.T) {
	inode, inner, dir, root := blocks()
	rooms := [][]byte{roomy(inode), roomy(inner), roomy(dir), roomy(root)}
	n, _ := ParseInode(rooms[0])
	ids, _ := ParseInner(rooms[1])
	l, _ := ParseDir(rooms[2])
	r, e := ParseRoot(rooms[3])
	if e != api.OK {
		t.Fatal(e)
	}
	for _, room := range rooms {
		tread(room)
	}
	if n.Top != nth(4) || !slices.Equal(ids, hashes(5)) || !slices.Equal(l, entries("a", "bb", "\u20ac")) || !bytes.Equal(r.Public, aPublic()) || !bytes.Equal(r.Sig, sigOf(5)) {
		t.Errorf("%v, %v, %v, %v", n, ids, l, r)
	}
	clear(whole(ids))
	clear(whole(l))
	clear(whole(r.Public))
	clear(whole(r.Sig))
	for _, room := range rooms {
		if bytes.Count(whole(room), []byte{trodden}) != cap(room) {
			t.Errorf("an answer lies in %x", whole(room))
		}
	}
}

// No list of a root lies in the other's room.
func TestP2ListsOfARootApart(t *testing.T) {
	for _, length := range []int{0, 1, 5, 5000} {
		r := aRoot()
		r.Sig = sigOf(length)
		b, _ := Root(r)
		got, e := ParseRoot(b)
		if e != api.OK {
			t.Fatal(e)
		}
		tread(got.Public)
		if !bytes.Equal(got.Sig, r.Sig) {
			t.Errorf("%d: the signature lies in the key's room", length)
		}
		got, _ = ParseRoot(b)
		tread(got.Sig)
		if !bytes.Equal(got.Public, r.Public) {
			t.Errorf("%d: the key lies in the signature's room", length)
		}
		one, _ := ParseRoot(b)
		two, _ := ParseRoot(b)
		tread(one.Public)
		tread(one.Sig)
		if !bytes.Equal(two.Public, r.Public) || !bytes.Equal(two.Sig, r.Sig) {
			t.Errorf("%d: two answers share", length)
		}
	}
}

func TestP2NoneAndEmptyAreTheSame(t *testing.T) {
	for _, none := range [][]byte{nil, {}, make([]byte, 0, 60)} {
		tryParseInode(t, none)
		tryParseInner(t, none)
		tryParseDir(t, none)
		tryParseRoot(t, none)
		for _, public := range [][]byte{none, aPublic()} {
			r := aRoot()
			r.Public, r.Sig = public, none
			tryRoot(t, r)
		}
	}
	for _, none := range [][]api.Entry{nil, {}, make([]api.Entry, 0, 3)} {
		tryDir(t, none)
	}
}

// told is all that the calls say of some bytes.
func told(b []byte) string {
	inode, e1 := ParseInode(b)
	inner, e2 := ParseInner(b)
	dir, e3 := ParseDir(b)
	root, e4 := ParseRoot(b)
	return fmt.Sprint(inode, e1, inner, e2, dir, e3, root, e4)
}

// What was asked before, and refused, is not seen in an answer.
func TestP3SameCallsSameAnswers(t *testing.T) {
	inode, inner, dir, root := blocks()
	var before []string
	rows := [][]byte{inode, inner, dir, root, inode[:20], inner[:20], dir[:20], root[:96], nil, []byte("n\x09"), []byte("\x00")}
	for _, b := range rows {
		before = append(before, told(b))
	}
	for _, i := range rand.New(rand.NewSource(3)).Perm(500) {
		if got := told(rows[i%len(rows)]); got != before[i%len(rows)] {
			t.Errorf("%x: %s, not %s", rows[i%len(rows)], got, before[i%len(rows)])
		}
	}
}

// Each block's first byte tells its kind: one of a kind is read as none of the others that has a mark.
func TestP905KindsApart(t *testing.T) {
	inode, inner, _, root := blocks()
	for i, b := range [][]byte{inode, inner, root} {
		_, e1 := ParseInode(b)
		_, e2 := ParseInner(b)
		_, e3 := ParseRoot(b)
		for j, e := range []api.Errno{e1, e2, e3} {
			if (e == api.OK) != (i == j) {
				t.Errorf("%x: %d: %v", b, j, e)
			}
		}
	}
}

// tryAll reads bytes as each kind.
func tryAll(t testing.TB, b []byte) {
	t.Helper()
	tryParseInode(t, b)
	tryParseInner(t, b)
	tryParseDir(t, b)
	tryParseRoot(t, b)
}

func TestP1AnyBytes(t *testing.T) {
	r := rand.New(rand.NewSource(1))
	inode, inner, dir, root := blocks()
	rows := [][]byte{inode, inner, dir, root}
	for k := range 40000 {
		b := slices.Clone(rows[k%len(rows)])
		for range r.Intn(4) {
			b[r.Intn(len(b))] = byte(r.Intn(256))
		}
		if r.Intn(3) == 0 {
			b = b[:r.Intn(len(b))]
		}
		if r.Intn(3) == 0 {
			b = append(b, rows[r.Intn(len(rows))]...)
		}
		tryAll(t, b)
	}
	for range 10000 {
		b := make([]byte, r.Intn(200))
		r.Read(b)
		tryAll(t, b)
	}
}

// Long rows end, whatever they say.
func TestP1LongRows(t *testing.T) {
	const long = 1 << 23
	want := []api.Errno{api.ErrBad, api.ErrBad, api.ErrCut, api.ErrBad}
	for _, fill := range "\x00\x01inr\xff" {
		b := bytes.Repeat([]byte{byte(fill)}, long)
		_, e1 := ParseInode(b)
		_, e2 := ParseInner(b)
		_, e3 := ParseDir(b)
		_, e4 := ParseRoot(b)
		if got := []api.Errno{e1, e2, e3, e4}; !slices.Equal(got, want) {
			t.Errorf("%d: %v, not %v", fill, got, want)
		}
	}
	if _, e := ParseDir(make([]byte, 33*200000)); e != api.ErrName {
		t.Error(e)
	}
	one := append([]byte("\x01a"), make([]byte, 32)...)
	if _, e := ParseDir(bytes.Repeat(one, 200000)); e != api.ErrArg {
		t.Error(e)
	}
	if _, e := Dir(rising(900)); e != api.ErrMany {
		t.Error(e)
	}
}

func FuzzP905ParseAll(f *testing.F) {
	inode, inner, dir, root := blocks()
	for _, b := range [][]byte{inode, inner, dir, root, nil, []byte("n\x01"), []byte("i"), []byte("r")} {
		f.Add(b)
	}
	f.Fuzz(func(t *testing.T, b []byte) { tryAll(t, b) })
}

func FuzzP901Inode(f *testing.F) {
	f.Add(1, 0, 0, []byte(nil))
	f.Add(2, 65, 1, []byte("top"))
	f.Add(1, 1<<20, 5, []byte("top"))
	f.Add(1, 1<<62, 7, []byte("top"))
	f.Fuzz(func(t *testing.T, kind, size, levels int, top []byte) {
		n := api.Inode{Kind: kind, Size: size, Levels: levels}
		copy(n.Top[:], top)
		tryInode(t, n)
		n.Levels = rightLevels(size)
		tryInode(t, n)
	})
}

func FuzzP903Dir(f *testing.F) {
	f.Add("a", "b", "\u20ac")
	f.Add("b", "a", "a")
	f.Add("", ".", "/")
	f.Add("\xff", "xxxxxxxxxxxxx", "\x7f")
	f.Fuzz(func(t *testing.T, one, two, three string) {
		texts := []string{one, two, three}
		tryDir(t, entries(texts...))
		tryParseDir(t, written(entries(texts...)))
		slices.Sort(texts)
		tryDir(t, entries(texts...))
	})
}

func FuzzP904Root(f *testing.F) {
	f.Add(aPublic(), 1, []byte("sig"))
	f.Add(aPublic()[:55], 1<<31-1, []byte(nil))
	f.Add(aPublic(), 1<<31, sigOf(5001))
	f.Fuzz(func(t *testing.T, public []byte, version int, sig []byte) {
		tryRoot(t, api.Root{Public: public, Version: version, Node: nth(version), Sig: sig})
		key := aPublic()
		copy(key, public)
		tryRoot(t, api.Root{Public: key, Version: version, Node: nth(1), Sig: sig})
	})
}
