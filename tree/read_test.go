package tree

import (
	"bytes"
	"math"
	"math/rand"
	"slices"
	"strings"
	"testing"

	"lattice/api"
)

var edgeSizes = []int{0, 1, 63, 64, 65, 512, 513, 1000}

// extremes are places and numbers that may not be, or lie far off.
var extremes = []int{math.MinInt, math.MinInt + 1, -1 << 32, -65, -64, -1, 1 << 20, 1 << 31, 1 << 32, math.MaxInt - 1000, math.MaxInt - 1, math.MaxInt}

// under is a tree in whose top directory a name leads to a node.
func (k laid) under(name string, node api.Id) Tree {
	return k.tree(k.file(api.Dir, entryText(name, node)))
}

// without is a tree without its i-th block.
func without(x Tree, i int) Tree {
	return Tree{Node: x.Node, Blocks: slices.Delete(slices.Clone(x.Blocks), i, i+1)}
}

// losing is a tree without the block of a text.
func losing(t *testing.T, x Tree, all string) Tree {
	t.Helper()
	i := slices.IndexFunc(x.Blocks, func(b api.Block) bool { return string(b.Data) == all })
	if i < 0 {
		t.Fatalf("no block %s", shown(all))
	}
	return without(x, i)
}

func TestP1004ReadsAsGiven(t *testing.T) {
	l := several()
	x := built(t, l)
	for _, f := range l {
		n, e := Find(x, f.Path)
		if e != api.OK || n.Kind != api.File || n.Size != len(f.Data) {
			t.Errorf("%s: %+v, %v", f.Path, n, e)
		}
		if b, e := Read(x, f.Path, 0, 1000); e != api.OK || !bytes.Equal(b, f.Data) {
			t.Errorf("%s: %v", f.Path, e)
		}
	}
	for path, want := range map[string]string{"/": "a a-b c twin z zeros \u20ac", "/a": "b empty one", "/a/b": "c x", "/a/b/c": "d", "/a/b/c/d": "e", "/twin": "x y z", "/twin/y": "x"} {
		got, e := List(x, path)
		if e != api.OK || strings.Join(got, " ") != want {
			t.Errorf("%s: %q, %v", path, got, e)
		}
		if n, e := Find(x, path); e != api.OK || n.Kind != api.Dir {
			t.Errorf("%s: %+v, %v", path, n, e)
		}
	}
	tryTree(t, x, severalPaths...)
}

// fails asks Find, List and Read, none of which has an answer.
func fails(t *testing.T, x Tree, path string, want api.Errno) {
	t.Helper()
	n, e := Find(x, path)
	l, f := List(x, path)
	b, g := Read(x, path, 0, 1000)
	c, h := Read(x, path, -1, -1)
	if e != want || f != want || g != want || h != want || n != (api.Inode{}) || len(l)+len(b)+len(c) > 0 {
		t.Errorf("%q: %+v, %v; %q, %v; %x, %v; %x, %v, not %v", path, n, e, l, f, b, g, c, h, want)
	}
	tryPath(t, x, path)
}

func TestP1004NoSuchPath(t *testing.T) {
	for _, x := range []Tree{built(t, several()), {}} {
		for want, l := range wrongItems() {
			for _, wrong := range l {
				if wrong.Path != "/" && wrong.Path != "/a" && wrong.Path != "/1/2/3/4/5" {
					fails(t, x, wrong.Path, want)
				}
			}
		}
	}
	x := built(t, several())
	for path, want := range map[string]api.Errno{
		"/no": api.ErrNone, "/a/no": api.ErrNone, "/a/b/c/d/no": api.ErrNone, "/no/no/no": api.ErrNone, "/A": api.ErrNone, "/a ": api.ErrNone, "/zero": api.ErrNone, "/zeros0": api.ErrNone, "/e": api.ErrNone,
		"/z/a": api.ErrKind, "/a/empty/x": api.ErrKind, "/a/b/c/d/e" + "/x": api.ErrMany, "/a/one/no/no": api.ErrKind, "/twin/x/y": api.ErrKind, "/c/c/c/c/c": api.ErrKind,
	} {
		fails(t, x, path, want)
	}
	fails(t, built(t, nil), "/a", api.ErrNone)
	fails(t, Tree{}, "/", api.ErrGone)
	fails(t, Tree{}, "/a", api.ErrGone)
	fails(t, Tree{Blocks: x.Blocks}, "/a", api.ErrGone)
	fails(t, Tree{Node: x.Node}, "/a", api.ErrGone)
}

func TestP1004OtherKinds(t *testing.T) {
	x := built(t, several())
	for _, f := range several() {
		if l, e := List(x, f.Path); e != api.ErrKind || len(l) > 0 {
			t.Errorf("%s: %q, %v", f.Path, l, e)
		}
	}
	for _, path := range []string{"/", "/a", "/twin/y"} {
		for _, off := range append(extremes, 0, 1) {
			if b, e := Read(x, path, off, off); e != api.ErrKind || len(b) > 0 {
				t.Errorf("%s, %d: %x, %v", path, off, b, e)
			}
		}
	}
}

// From each place on.
func TestP1004ReadPlaces(t *testing.T) {
	for _, size := range edgeSizes {
		data := row(size, 0)
		x := built(t, []api.Item{{Path: "/a", Data: data}})
		for off := range size + 3 {
			for _, n := range []int{0, 1, 2, 63, 64, 65, 128, 447, 449, size - 1, size, size + 1, math.MaxInt} {
				if n < 0 {
					continue
				}
				want := data[min(off, size):]
				want = want[:min(n, len(want))]
				if b, e := Read(x, "/a", off, n); e != api.OK || !bytes.Equal(b, want) {
					t.Fatalf("%d: %d, %d: %x, %v", size, off, n, b, e)
				}
			}
		}
	}
}

func TestP1004ReadExtremes(t *testing.T) {
	for _, size := range edgeSizes {
		data := row(size, 0)
		x := built(t, []api.Item{{Path: "/a", Data: data}})
		for _, off := range append(extremes, 0, 1, size) {
			for _, n := range append(extremes, 0, 1, size) {
				want, errno := []byte(nil), api.OK
				if off < 0 || n < 0 {
					errno = api.ErrArg
				} else if off < size {
					want = data[off:]
					want = want[:min(n, len(want))]
				}
				if b, e := Read(x, "/a", off, n); e != errno || !bytes.Equal(b, want) {
					t.Errorf("%d: %d, %d: %x, %v, not %v", size, off, n, b, e, errno)
				}
			}
		}
	}
}

// way lays what Find needs of a path, and with its bytes too what List or Read does.
func way(t *testing.T, x Tree, path string, withBytes bool) laid {
	t.Helper()
	k := laid{}
	ahead := []string{"/"}
	for i := 1; i < len(path); i++ {
		if path[i] == '/' {
			ahead = append(ahead, path[:i])
		}
	}
	if path == "/" {
		ahead = nil
	}
	if withBytes {
		ahead = append(ahead, path)
	}
	for _, p := range ahead {
		n, e := saidFind(x, p)
		all, f := saidBytes(x.Blocks, n, 0, n.Size)
		if e != api.OK || f != api.OK {
			t.Fatalf("%s: %v, %v", p, e, f)
		}
		k.file(byte(n.Kind), all)
	}
	n, _ := saidFind(x, path)
	k.lay(inodeText(byte(n.Kind), n.Size, n.Levels, n.Top))
	return k
}

// Without a block, or with one that is another, all that does not need it is told as ever, and all that does is gone.
func TestP1004NeededBlocks(t *testing.T) {
	x := built(t, several())
	turns := []func(b *api.Block){
		func(b *api.Block) { b.Data = b.Data[:len(b.Data)-1] },
		func(b *api.Block) { b.Data = append(bytes.Clone(b.Data), 0) },
		func(b *api.Block) { b.Data = bytes.Clone(b.Data); b.Data[0] ^= 1 },
		func(b *api.Block) { b.Data = bytes.Clone(b.Data); b.Data[len(b.Data)-1] ^= 0x80 },
		func(b *api.Block) { b.Data = nil },
		func(b *api.Block) { b.Key[0] ^= 1 },
		func(b *api.Block) { b.Key[31] ^= 0x80 },
		func(b *api.Block) { b.Key = api.Id{} },
	}
	for i, b := range x.Blocks {
		broken := []Tree{without(x, i)}
		for _, turn := range turns {
			y := Tree{Node: x.Node, Blocks: slices.Clone(x.Blocks)}
			turn(&y.Blocks[i])
			broken = append(broken, y)
		}
		for _, path := range severalPaths {
			want, errno := Find(x, path)
			if errno != api.OK {
				continue
			}
			_, onWay := way(t, x, path, false)[b.Key]
			_, inBytes := way(t, x, path, true)[b.Key]
			for _, y := range broken {
				n, e := Find(y, path)
				if onWay && e != api.ErrGone || !onWay && (e != api.OK || n != want) {
					t.Fatalf("%s without %s: %+v, %v", path, shown(b), n, e)
				}
				_, e = List(y, path)
				_, f := Read(y, path, 0, 1000)
				if want.Kind == api.File {
					e, f = f, e
				}
				if (e == api.ErrGone) != inBytes || !inBytes && e != api.OK || !onWay && f != api.ErrKind {
					t.Fatalf("%s without %s: %v, %v", path, shown(b), e, f)
				}
			}
		}
	}
}

func TestP1004BrokenAsSaid(t *testing.T) {
	x := built(t, several()[:8])
	for i := range x.Blocks {
		y := without(x, i)
		tryTree(t, y, severalPaths...)
	}
	one := built(t, []api.Item{{Path: "/a/b", Data: row(70, 0)}})
	for i, b := range one.Blocks {
		for at := range b.Data {
			y := Tree{Node: one.Node, Blocks: slices.Clone(one.Blocks)}
			y.Blocks[i].Data = bytes.Clone(b.Data)
			y.Blocks[i].Data[at] ^= byte(1 << (at % 8))
			tryTree(t, y, "/", "/a", "/a/b", "/a/b/c", "/b")
			y.Blocks[i].Key = api.Id(laid{}.lay(string(y.Blocks[i].Data)))
			tryTree(t, y, "/", "/a", "/a/b")
			y.Node = y.Blocks[i].Key
			tryTree(t, y, "/", "/a", "/b")
		}
	}
}

// Of blocks that have one Key those that lie do not count, wherever they stand; where all stand, and what else they say, does not count either.
func TestP1004KeysTwice(t *testing.T) {
	x := built(t, several())
	lies := func() []api.Block {
		var l []api.Block
		for i, b := range x.Blocks {
			l = append(l, api.Block{Key: b.Key, Data: x.Blocks[(i+1)%len(x.Blocks)].Data, Source: i, Expires: -i})
		}
		return l
	}
	backwards := slices.Clone(x.Blocks)
	slices.Reverse(backwards)
	sourced := slices.Clone(x.Blocks)
	for i := range sourced {
		sourced[i].Source, sourced[i].Expires = i-5, math.MaxInt-i
	}
	more := append(slices.Clone(x.Blocks), built(t, numbered(20)).Blocks...)
	for i, l := range [][]api.Block{append(lies(), x.Blocks...), append(slices.Clone(x.Blocks), lies()...), slices.Concat(lies(), lies(), x.Blocks, lies()), slices.Concat(x.Blocks, x.Blocks), backwards, sourced, more, slices.Concat(sourced, backwards)} {
		y := Tree{Node: x.Node, Blocks: l}
		for _, f := range several() {
			if b, e := Read(y, f.Path, 0, 1000); e != api.OK || !bytes.Equal(b, f.Data) {
				t.Errorf("%d: %s: %v", i, f.Path, e)
			}
		}
		tryTree(t, y, severalPaths...)
		trySound(t, y, false)
	}
	for _, path := range []string{"/", "/a", "/z", "/no"} {
		fails(t, Tree{Node: x.Node, Blocks: lies()}, path, api.ErrGone)
	}
}

// Of a file that has lost a block reads are told that do not need it.
func TestP1005OnlyWhatIsAsked(t *testing.T) {
	data := row(1000, 0)
	whole := built(t, []api.Item{{Path: "/a", Data: data}})
	k := laid{}
	var ids []api.Id
	for at := 0; at < 1000; at += 64 {
		all := "d" + string(data[at:min(at+64, 1000)])
		ids = append(ids, k.lay(all))
		x := losing(t, whole, all)
		for off := range 1002 {
			for _, n := range []int{0, 1, 65, math.MaxInt} {
				want, errno := data[min(off, 1000):], api.OK
				want = want[:min(n, len(want))]
				if off < at+64 && off+len(want) > at && len(want) > 0 {
					want, errno = nil, api.ErrGone
				}
				if b, e := Read(x, "/a", off, n); e != errno || !bytes.Equal(b, want) {
					t.Fatalf("%d: %d, %d: %v, not %v", at, off, n, e, errno)
				}
			}
		}
	}
	first, second := innerText(ids[:8]...), innerText(ids[8:]...)
	for lost, fine := range map[string][2]int{first: {512, 1000}, second: {0, 512}, innerText(k.lay(first), k.lay(second)): {1000, 1000}} {
		x := losing(t, whole, lost)
		for off := range 1002 {
			for _, n := range []int{0, 1, 512} {
				errno := api.ErrGone
				if off >= 1000 || n == 0 || off >= fine[0] && min(off+n, 1000) <= fine[1] {
					errno = api.OK
				}
				if _, e := Read(x, "/a", off, n); e != errno {
					t.Fatalf("%d, %d: %v, not %v", off, n, e, errno)
				}
			}
		}
	}
	// What may not be is refused ahead of what is not there.
	x := losing(t, whole, innerText(k.lay(first), k.lay(second)))
	for _, off := range extremes {
		if b, e := Read(x, "/a", min(off, -1), 5); e != api.ErrArg || len(b) > 0 {
			t.Errorf("%d: %v", off, e)
		}
		if b, e := Read(x, "/a", 5, min(off, -1)); e != api.ErrArg || len(b) > 0 {
			t.Errorf("%d: %v", off, e)
		}
	}
}

// odd is a file's inode over some blocks, what is asked of it, and what is told.
type odd struct {
	lay    func(k laid) api.Id
	off, n int
	want   api.Errno
}

// fileOver is an inode block of a file.
func fileOver(k laid, size, levels int, top api.Id) api.Id {
	return k.lay(inodeText(api.File, size, levels, top))
}

func rows(k laid, sizes ...int) []api.Id {
	var l []api.Id
	for i, size := range sizes {
		l = append(l, k.lay("d"+string(row(size, i))))
	}
	return l
}

var gone = api.Id{1, 2, 3}

// oddData are files of one row.
func oddData() []odd {
	one := func(all string) func(k laid) api.Id {
		return func(k laid) api.Id { return fileOver(k, 3, 0, k.lay(all)) }
	}
	return []odd{
		{one("dabc"), 0, 9, api.OK},
		{one("dab"), 0, 9, api.ErrBad},
		{one("dab"), 0, 1, api.ErrBad},
		{one("dab"), 2, 1, api.ErrBad},
		{one("dab"), 3, 1, api.OK},
		{one("dab"), 0, 0, api.OK},
		{one("dabcd"), 0, 9, api.ErrBad},
		{one("d"), 0, 9, api.ErrBad},
		{one(""), 0, 9, api.ErrBad},
		{one("Dabc"), 0, 9, api.ErrBad},
		{one("abc"), 0, 9, api.ErrBad},
		{one("nabc"), 0, 9, api.ErrBad},
		{one("iabc"), 0, 9, api.ErrBad},
		{one("xabc"), 1, 1, api.ErrBad},
		{one("\x00abc"), 0, 9, api.ErrBad},
		{one("d" + string(row(64, 0))), 0, 9, api.ErrBad},
		{one("d" + strings.Repeat("x", 3+256)), 0, 9, api.ErrBad},
		{one("d" + strings.Repeat("x", 3+65536)), 0, 9, api.ErrBad},
		{func(k laid) api.Id { return fileOver(k, 3, 0, api.Id{}) }, 0, 9, api.ErrGone},
		{func(k laid) api.Id { return fileOver(k, 3, 0, gone) }, 0, 9, api.ErrGone},
		{func(k laid) api.Id { return fileOver(k, 3, 0, gone) }, 3, 9, api.OK},
		{func(k laid) api.Id { return fileOver(k, 3, 0, k.lay(innerText(rows(k, 3)...))) }, 0, 9, api.ErrBad},
		{func(k laid) api.Id { return fileOver(k, 64, 0, k.lay("d"+string(row(64, 0)))) }, 0, 99, api.OK},
		{func(k laid) api.Id { return fileOver(k, 64, 0, k.lay("d"+string(row(63, 0)))) }, 0, 1, api.ErrBad},
		{func(k laid) api.Id { return fileOver(k, 63, 0, k.lay("d"+string(row(64, 0)))) }, 0, 1, api.ErrBad},
		{func(k laid) api.Id { return fileOver(k, 0, 0, api.Id{}) }, 0, 9, api.OK},
	}
}

// oddInners are files of one level.
func oddInners() []odd {
	of := func(size int, lay func(k laid) string) func(k laid) api.Id {
		return func(k laid) api.Id { return fileOver(k, size, 1, k.lay(lay(k))) }
	}
	hashes := func(sizes ...int) func(k laid) string {
		return func(k laid) string { return innerText(rows(k, sizes...)...) }
	}
	raw := func(all string) func(k laid) string { return func(laid) string { return all } }
	some := func(l ...api.Id) func(k laid) string { return func(laid) string { return innerText(l...) } }
	return []odd{
		{of(70, hashes(64, 6)), 0, 99, api.OK},
		{of(70, hashes(64)), 0, 99, api.ErrBad},
		{of(70, hashes(64)), 0, 64, api.OK},
		{of(70, hashes(64)), 63, 2, api.ErrBad},
		{of(70, hashes(64)), 64, 1, api.ErrBad},
		{of(70, hashes(64)), 70, 1, api.OK},
		{of(70, hashes(64, 6, 64)), 0, 99, api.OK}, // more than there need be
		{of(70, hashes(64, 6, 1, 1, 1, 1, 1, 1)), 69, 1, api.OK},
		{of(70, hashes(64, 5)), 0, 99, api.ErrBad},
		{of(70, hashes(64, 5)), 0, 64, api.OK},
		{of(70, hashes(64, 7)), 64, 1, api.ErrBad},
		{of(70, hashes(64, 64)), 64, 1, api.ErrBad},
		{of(70, hashes(63, 6)), 0, 1, api.ErrBad},
		{of(70, hashes(63, 6)), 64, 9, api.OK},
		{of(70, hashes(6, 64)), 0, 1, api.ErrBad},
		{of(128, hashes(64, 64)), 0, 128, api.OK},
		{of(128, hashes(64, 63)), 0, 128, api.ErrBad},
		{of(512, hashes(64, 64, 64, 64, 64, 64, 64, 64)), 0, 999, api.OK},
		{of(512, hashes(64, 64, 64, 64, 64, 64, 64)), 0, 999, api.ErrBad},
		{of(512, hashes(64, 64, 64, 64, 64, 64, 64)), 0, 448, api.OK},
		{of(512, hashes(64, 64, 64, 64, 64, 64, 64, 0)), 400, 49, api.ErrBad},
		{of(70, raw("dabc")), 0, 1, api.ErrBad},
		{of(70, raw("d"+string(row(64, 0)))), 0, 1, api.ErrBad},
		{of(70, raw("")), 0, 1, api.ErrBad},
		{of(70, raw("n")), 0, 1, api.ErrBad},
		{of(70, raw("n\x00")), 0, 1, api.ErrBad},
		{of(70, raw("n\x01")), 0, 1, api.ErrBad},
		{of(70, raw("n\x09"+strings.Repeat("x", 9*32))), 0, 1, api.ErrBad},
		{of(70, raw("n\x02"+strings.Repeat("x", 63))), 0, 1, api.ErrBad},
		{of(70, raw("n\x02"+strings.Repeat("x", 65))), 0, 1, api.ErrBad},
		{of(70, raw("m\x02"+strings.Repeat("x", 64))), 0, 1, api.ErrBad},
		{of(70, raw("n\x02"+strings.Repeat("x", 64))), 0, 1, api.ErrGone},
		{of(70, raw("n\x00")), 70, 1, api.OK},
		{of(70, raw("n\x00")), 0, 0, api.OK},
		{of(70, some(gone, gone)), 0, 99, api.ErrGone},
		{of(70, some(gone)), 0, 99, api.ErrGone}, // the first row goes ahead of the second, whose hash there is none of
		{of(70, some(gone)), 64, 1, api.ErrBad},
		{of(70, func(k laid) string { return innerText(gone, rows(k, 5)[0]) }), 0, 99, api.ErrGone},
		{of(70, func(k laid) string { return innerText(rows(k, 5)[0], gone) }), 0, 99, api.ErrBad},
		{of(70, func(k laid) string { return innerText(rows(k, 64)[0], gone) }), 0, 99, api.ErrGone},
		{of(70, func(k laid) string { return innerText(rows(k, 64)[0], gone) }), 0, 64, api.OK},
		{of(70, func(k laid) string { return innerText(k.lay(innerText(rows(k, 64, 6)...))) }), 0, 1, api.ErrBad}, // a level too many
	}
}

// oddDeep are files of two levels.
func oddDeep() []odd {
	full := func(k laid) api.Id { return k.lay(innerText(rows(k, 64, 64, 64, 64, 64, 64, 64, 64)...)) }
	of := func(size int, lay func(k laid) []api.Id) func(k laid) api.Id {
		return func(k laid) api.Id { return fileOver(k, size, 2, k.lay(innerText(lay(k)...))) }
	}
	both := func(second func(k laid) api.Id) func(k laid) []api.Id {
		return func(k laid) []api.Id { return []api.Id{full(k), second(k)} }
	}
	return []odd{
		{of(520, both(func(k laid) api.Id { return k.lay(innerText(rows(k, 8)...)) })), 0, 999, api.OK},
		{of(520, both(func(k laid) api.Id { return k.lay(innerText(rows(k, 8, 8)...)) })), 0, 999, api.OK},
		{of(520, both(func(k laid) api.Id { return k.lay(innerText(rows(k, 9)...)) })), 511, 2, api.ErrBad},
		{of(520, both(func(k laid) api.Id { return rows(k, 8)[0] })), 0, 999, api.ErrBad},
		{of(520, both(func(k laid) api.Id { return rows(k, 8)[0] })), 0, 512, api.OK},
		{of(520, both(func(laid) api.Id { return gone })), 0, 512, api.OK},
		{of(520, both(func(laid) api.Id { return gone })), 0, 513, api.ErrGone},
		{of(520, both(func(laid) api.Id { return gone })), 519, 1, api.ErrGone},
		{of(520, func(k laid) []api.Id { return []api.Id{full(k)} }), 0, 999, api.ErrBad},
		{of(520, func(k laid) []api.Id { return []api.Id{full(k)} }), 0, 512, api.OK},
		{of(520, func(k laid) []api.Id { return []api.Id{full(k)} }), 512, 1, api.ErrBad},
		{of(520, func(k laid) []api.Id { return []api.Id{gone, gone} }), 512, 1, api.ErrGone},
		{of(520, func(k laid) []api.Id { return rows(k, 64, 64) }), 0, 1, api.ErrBad},
		// The first data block that has an error: of the first eight the last is gone, behind them an inner block is none.
		{of(520, func(k laid) []api.Id {
			first := rows(k, 64, 64, 64, 64, 64, 64, 64)
			return []api.Id{k.lay(innerText(append(first, gone)...)), k.lay("n")}
		}), 0, 999, api.ErrGone},
		{of(520, func(k laid) []api.Id {
			first := rows(k, 64, 64, 64, 64, 64, 64, 64)
			return []api.Id{k.lay(innerText(first...)), gone}
		}), 0, 999, api.ErrBad},
		{of(520, func(k laid) []api.Id {
			first := rows(k, 64, 64, 64, 64, 64, 64, 64)
			return []api.Id{k.lay(innerText(first...)), gone}
		}), 512, 9, api.ErrGone},
		// A whole level of too few, and the digits go on in the next one.
		{of(1000, func(k laid) []api.Id {
			return []api.Id{k.lay(innerText(rows(k, 64)...)), full(k)}
		}), 64, 1, api.ErrBad},
		{of(1000, func(k laid) []api.Id {
			return []api.Id{k.lay(innerText(rows(k, 64)...)), full(k)}
		}), 512, 64, api.OK},
		{of(1000, func(k laid) []api.Id { return []api.Id{full(k), full(k)} }), 0, 960, api.OK},
		{of(1000, func(k laid) []api.Id { return []api.Id{full(k), full(k)} }), 960, 1, api.ErrBad},
	}
}

func TestP1005Odd(t *testing.T) {
	for _, l := range [][]odd{oddData(), oddInners(), oddDeep()} {
		for i, x := range l {
			k := laid{}
			y := k.under("a", x.lay(k))
			b, e := Read(y, "/a", x.off, x.n)
			if e != x.want || e != api.OK && len(b) > 0 {
				t.Errorf("%d: %x, %v, not %v", i, b, e, x.want)
			}
			tryRead(t, y, "/a", x.off, x.n)
			tryTree(t, y, "/", "/a", "/a/b", "/b")
			if _, e := Find(y, "/a"); e != api.OK {
				t.Errorf("%d: %v", i, e)
			}
		}
	}
}

// The same blocks below a directory's inode: whatever their error is, it goes ahead of what their bytes say.
func TestP1004OddDirectories(t *testing.T) {
	for _, l := range [][]odd{oddData(), oddInners(), oddDeep()} {
		for i, x := range l {
			k := laid{}
			file := k[x.lay(k)]
			dir := k.lay("i\x02" + file[2:])
			y := k.under("a", dir)
			n, e := Find(y, "/a")
			if e != api.OK || n.Kind != api.Dir {
				t.Errorf("%d: %v", i, e)
			}
			tryTree(t, y, "/", "/a", "/a/b")
			// And as the top one.
			y.Node = dir
			tryTree(t, y, "/", "/a", "/a/b")
		}
	}
}

func TestP1004NoDirectory(t *testing.T) {
	k := laid{}
	node := k.file(api.File, "x")
	entries := func(l ...string) string {
		all := ""
		for _, name := range l {
			all += entryText(name, node)
		}
		return all
	}
	var many []string
	for c := range 21 {
		many = append(many, string(rune('a'+c)))
	}
	for want, l := range map[api.Errno][]string{
		api.ErrCut:  {"\x01", "\x01a", entries("a")[:33], entries("a", "b")[:60], entries("a") + "\x00", entries("a") + strings.Repeat("\xff", 200)},
		api.ErrName: {entries(""), entries("."), entries("a", ".."), entries("a/b"), entries("\x00"), strings.Repeat("\x00", 33), entries("/", "a", "a")},
		api.ErrBad:  {entries("\xff"), entries("a", "\xc0\x80")},
		api.ErrLong: {entries("xxxxxxxxxxxxx")},
		api.ErrArg:  {entries("b", "a"), entries("a", "a"), entries("a", "c", "b")},
		api.ErrMany: {entries(many...)},
		api.OK:      {"", entries("a"), entries(many[:20]...)},
	} {
		for _, all := range l {
			k := laid{}
			k.file(api.File, "x")
			x := k.under("d", k.file(api.Dir, all))
			if _, e := Find(x, "/d"); e != api.OK {
				t.Errorf("%s: %v", shown(all), e)
			}
			if l, e := List(x, "/d"); e != want || e != api.OK && len(l) > 0 {
				t.Errorf("%s: %q, %v, not %v", shown(all), l, e, want)
			}
			if n, e := Find(x, "/d/a"); want != api.OK && (e != want || n != api.Inode{}) {
				t.Errorf("%s: %v, not %v", shown(all), e, want)
			}
			if _, e := Read(x, "/d", 0, 1); e != api.ErrKind {
				t.Errorf("%s: %v", shown(all), e)
			}
			tryTree(t, x, "/", "/d", "/d/a", "/d/a/b")
			x.Node = k.file(api.Dir, all)
			tryTree(t, k.tree(x.Node), "/", "/a", "/zz")
			if Sound(x) && want != api.OK {
				t.Errorf("%s is sound", shown(all))
			}
		}
	}
}

// A directory that says more bytes than one may have is read all the same, and then is none.
func TestP1004GreatDirectory(t *testing.T) {
	k := laid{}
	id := k.lay("d" + strings.Repeat("\x00", 64))
	for range 4 {
		id = k.lay(innerText(id, id, id, id, id, id, id, id))
	}
	x := k.tree(k.lay(inodeText(api.Dir, 1<<18, 4, id)))
	fails := func(y Tree, want api.Errno) {
		t.Helper()
		_, e := List(y, "/")
		_, f := Find(y, "/a")
		if e != want || f != want || Sound(y) {
			t.Errorf("%v, %v, not %v", e, f, want)
		}
	}
	fails(x, api.ErrCut)
	fails(losing(t, k.tree(x.Node), "d"+strings.Repeat("\x00", 64)), api.ErrGone)
	k = laid{}
	fails(k.tree(k.file(api.Dir, strings.Repeat("\x00", 33*1000))), api.ErrName)
	k = laid{}
	fails(k.tree(k.file(api.Dir, strings.Repeat(entryText("a", id), 1000))), api.ErrArg)
}

func TestP1004OddInodes(t *testing.T) {
	for want, l := range map[api.Errno][]string{
		api.ErrCut:  {"", "i", inodeText(1, 0, 0, api.Id{})[:38], strings.Repeat("x", 38)},
		api.ErrBad:  {strings.Repeat("i", 39), inodeText(3, 0, 0, api.Id{}), inodeText(1, 65, 0, gone), inodeText(1, 1<<20+1, 5, gone), inodeText(1, 0, 0, gone), "d" + string(row(64, 0)), innerText(gone, gone), inodeText(0, 0, 0, api.Id{}) + "x"},
		api.ErrMore: {inodeText(1, 0, 0, api.Id{}) + "\x00", inodeText(2, 0, 0, api.Id{}) + "abc"},
	} {
		for _, all := range l {
			k := laid{}
			x := k.under("a", k.lay(all))
			fails(t, x, "/a", want)
			fails(t, x, "/a/b", want)
			fails(t, x, "/b", api.ErrNone)
			if l, e := List(x, "/"); e != api.OK || len(l) != 1 {
				t.Errorf("%q, %v", l, e)
			}
			trySound(t, x, false)
			x.Node = k.lay(all)
			fails(t, x, "/", want)
			fails(t, x, "/a", want)
			trySound(t, x, false)
		}
	}
	k := laid{}
	x := k.under("a", gone)
	fails(t, x, "/a", api.ErrGone)
	fails(t, x, "/a/b", api.ErrGone)
	fails(t, x, "/b", api.ErrNone)
	trySound(t, x, false)
}

// Of a file as great as an inode may say, each of whose rows is the same.
func TestP1005Great(t *testing.T) {
	k := laid{}
	data := string(row(64, 0))
	id := k.lay("d" + data)
	for range 4 {
		id = k.lay(innerText(id, id, id, id, id, id, id, id))
	}
	id = k.lay(innerText(id, id, id, id))
	x := k.under("a", fileOver(k, 1<<20, 5, id))
	trySound(t, x, true)
	if b, e := Read(x, "/a", 0, math.MaxInt); e != api.OK || string(b) != strings.Repeat(data, 1<<14) {
		t.Errorf("%d, %v", len(b), e)
	}
	for _, off := range []int{0, 1, 63, 1<<15 - 1, 1<<18 - 65, 1<<18 - 1, 1 << 18, 3<<18 - 1, 1<<20 - 65, 1<<20 - 1, 1 << 20} {
		for _, n := range []int{0, 1, 65, 200} {
			b, e := Read(x, "/a", off, n)
			n = min(n, 1<<20-off)
			if want := strings.Repeat(data, 5)[off%64:][:n]; e != api.OK || string(b) != want {
				t.Errorf("%d, %d: %x, %v", off, n, b, e)
			}
		}
	}
}

// anyTree lays texts of all kinds, each over some of those that were laid before, so that much of it may be, and much may not.
func anyTree(r *rand.Rand) Tree {
	k := laid{}
	pool := map[byte][]api.Id{}
	pick := func(kinds string) api.Id {
		l := pool[kinds[r.Intn(len(kinds))]]
		if len(l) == 0 || r.Intn(40) == 0 {
			return gone
		}
		return l[max(r.Intn(len(l)), r.Intn(len(l)))]
	}
	some := func(most int, kinds string) []api.Id {
		var l []api.Id
		for range 1 + r.Intn(most) {
			l = append(l, pick(kinds))
		}
		return l
	}
	lay := func(kind byte, all string) { pool[kind] = append(pool[kind], k.lay(all)) }
	for _, size := range []int{64, 64, 64, 64, 1, 6, 34, 63} {
		lay('d', "d"+string(row(size, r.Intn(3))))
	}
	for range 4 + r.Intn(40) {
		switch r.Intn(6) {
		case 0:
			lay('n', innerText(some(8, "ddd")...))
		case 1:
			lay('m', innerText(some(8, "nnnnd")...))
		case 2:
			lay('i', inodeText(api.File, []int{1, 6, 34, 63, 64}[r.Intn(5)], 0, pick("d")))
			lay('i', inodeText(api.File, []int{65, 70, 127, 128, 129, 192, 256, 512}[r.Intn(8)], 1, pick("nnnnnd")))
			lay('i', inodeText(api.File, []int{513, 577, 1000, 1024, 4096}[r.Intn(5)], 2, pick("mmmmmn")))
		case 3:
			lay('i', k[k.file(byte(1+r.Intn(2)), string(row([]int{0, 1, 33, 64, 65, 600}[r.Intn(6)], r.Intn(3))))])
		default:
			all := ""
			for _, name := range []string{"a", "b", "c", "d"}[r.Intn(3):] {
				all += entryText(name, pick("iiiiiiiiin"))
			}
			if r.Intn(20) == 0 {
				all = all[r.Intn(40):]
			}
			lay('i', k[k.file(api.Dir, all)])
		}
	}
	return k.tree(pick("i"))
}

func TestP1004AnyTree(t *testing.T) {
	r := rand.New(rand.NewSource(1004))
	var paths []string
	for _, a := range []string{"/a", "/b", "/c", "/d"} {
		paths = append(paths, a)
		for _, b := range []string{"/a", "/b", "/c", "/d"} {
			paths = append(paths, a+b, a+b+"/c", a+b+"/c/d", a+b+"/c/d/d")
		}
	}
	told := map[api.Errno]int{}
	for range 800 {
		x := anyTree(r)
		if r.Intn(3) == 0 && len(x.Blocks) > 0 {
			x = without(x, r.Intn(len(x.Blocks)))
		}
		tryPath(t, x, "/")
		for range 12 {
			path := paths[r.Intn(len(paths))]
			tryPath(t, x, path)
			tryRead(t, x, path, r.Intn(1100), r.Intn(1100))
			_, e := Read(x, path, 0, 1000)
			told[e]++
		}
		trySound(t, x, saidSound(x))
	}
	for _, e := range []api.Errno{api.OK, api.ErrNone, api.ErrKind, api.ErrGone, api.ErrBad, api.ErrCut} {
		if told[e] < 20 {
			t.Errorf("%v: %d times", e, told[e])
		}
	}
}
