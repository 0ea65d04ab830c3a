package tree

import (
	"bytes"
	"encoding/hex"
	"fmt"
	"math/rand"
	"slices"
	"strings"
	"testing"

	"lattice/api"
)

// row is so many bytes, of which no two rows of 64 are alike; nor are those of another seed, but ones of a byte alone.
func row(n, seed int) []byte {
	b := make([]byte, n)
	for i := range b {
		b[i] = byte(i*7 + i/64*13 + i%2*seed)
	}
	return b
}

// items are files without bytes.
func items(paths ...string) []api.Item {
	var l []api.Item
	for _, path := range paths {
		l = append(l, api.Item{Path: path})
	}
	return l
}

// numbered are so many files, of which each has its number as its one byte.
func numbered(count int) []api.Item {
	var l []api.Item
	for k := range count {
		l = append(l, api.Item{Path: fmt.Sprintf("/%02d", k), Data: []byte{byte(k)}})
	}
	return l
}

// several are files of all sizes at all depths, some alike, and directories that are.
func several() []api.Item {
	return []api.Item{
		{Path: "/z", Data: row(1000, 0)}, {Path: "/a/b/c/d/e", Data: row(64, 0)}, {Path: "/a/b/x", Data: row(65, 0)}, {Path: "/a/empty"},
		{Path: "/a/one", Data: []byte("1")}, {Path: "/a-b", Data: row(512, 0)}, {Path: "/c", Data: row(513, 0)}, {Path: "/zeros", Data: make([]byte, 1000)},
		{Path: "/\u20ac", Data: row(64, 0)}, {Path: "/twin/x", Data: row(65, 0)}, {Path: "/twin/y/x", Data: row(65, 0)}, {Path: "/twin/z/x", Data: row(65, 0)},
	}
}

// severalPaths are theirs, and some that lead nowhere.
var severalPaths = []string{"/", "/a", "/a/b", "/a/b/c", "/a/b/c/d", "/twin", "/twin/y", "/z", "/a/b/c/d/e", "/a/b/x", "/a/empty", "/a/one", "/a-b", "/c", "/zeros", "/\u20ac", "/twin/x", "/twin/z/x", "/no", "/a/no", "/a/b/c/d/no", "/z/a", "/a/empty/x/y"}

// kindsOf counts data blocks, inner blocks, inodes.
func kindsOf(l []api.Block) [3]int {
	var n [3]int
	for _, b := range l {
		n[strings.IndexByte("dni", b.Data[0])]++
	}
	return n
}

func built(t testing.TB, l []api.Item) Tree {
	t.Helper()
	x, e := Build(l)
	if e != api.OK {
		t.Fatalf("Build %s: %v", shown(l), e)
	}
	return x
}

func TestP1002Example(t *testing.T) {
	for _, none := range [][]api.Item{nil, {}, make([]api.Item, 0, 4)} {
		x := built(t, none)
		inode := append([]byte("i\x02"), make([]byte, 37)...)
		if len(x.Blocks) != 1 || x.Blocks[0].Key != x.Node || !bytes.Equal(x.Blocks[0].Data, inode) {
			t.Errorf("%x", x)
		}
		if n, e := Find(x, "/"); n != (api.Inode{Kind: api.Dir}) || e != api.OK {
			t.Errorf("%v, %v", n, e)
		}
		if l, e := List(x, "/"); len(l) != 0 || e != api.OK {
			t.Errorf("%v, %v", l, e)
		}
		tryBuild(t, none)
		trySound(t, x, true)
	}
}

// Tops that were worked out by another program.
func TestP1002TopsFromElsewhere(t *testing.T) {
	one := func(path string, data []byte) []api.Item { return []api.Item{{Path: path, Data: data}} }
	var many []api.Item
	for k := range 20 {
		many = append(many, api.Item{Path: fmt.Sprintf("/%02d", k), Data: bytes.Repeat([]byte{byte(k)}, k)})
	}
	for i, x := range []struct {
		l      []api.Item
		blocks int
		node   string
	}{
		{nil, 1, "37c8a422cd482c428a9e6393742aa1245c3b73eb3af0bafd6f27836be888d746"},
		{one("/a", nil), 3, "7bad7168a504777950df39d4168fd6ac4f4ef10dc7bdae6dab8081cdb291ac75"},
		{one("/a", []byte("abc")), 4, "9a40a4b7d1557d13ae24cf866276a1b9713b0fb443396e51c5ab72fcca7f3abb"},
		{one("/a", row(64, 0)), 4, "7dc08159e9f2fadda506d9832914d14bc6dbb82c20f95aaec77f71db42c60a8d"},
		{one("/a", row(65, 0)), 6, "ff0fc80d208266229c69f5fa654a6cbc6e2c2b4c21150eeffe9d3d20b05e36d7"},
		{one("/a", row(512, 0)), 12, "4b46a1b593e7b063b22e157e7f5d9a2552b7fa78856faad5c516a0785bd12398"},
		{one("/a", row(513, 0)), 15, "a47fd0a948d4e79190ad2c4c44b6c718fe3e61db5e99393d561c2757cd232c3e"},
		{one("/a", row(1000, 0)), 22, "ffd9017f545eca814b9768f6b16881e1d98699b8ef3fb7a85ee5ebe45a8638d2"},
		{one("/z", make([]byte, 1000)), 8, "f08b06eac5258eb9ac0c558b47889f847cbb6a0a6eedf51a18cee97563511cc8"},
		{one("/1/2/3/4/5", []byte("x")), 12, "e3513d467ea33cc2e71ac248f6c636b07648071d7e3bf2df704c1e72e40f5dff"},
		{[]api.Item{{Path: "/docs/read.me", Data: []byte("abc")}, {Path: "/docs/\u20ac"}, {Path: "/a-b", Data: []byte("abc")}, {Path: "/a/b", Data: row(100, 0)}}, 17, "9fa7ba3aac1aa6b811d718463a299d8cd58a8a7eaafeb098806331138a270bdd"},
		{many, 54, "5537bc87f7cd7958c8d6321afbe5d6414314bda7b812e2dc341fbf738cb4feba"},
	} {
		got := built(t, x.l)
		if len(got.Blocks) != x.blocks || hex.EncodeToString(got.Node[:]) != x.node {
			t.Errorf("%d: %x, %d blocks", i, got.Node, len(got.Blocks))
		}
	}
}

// What a file alone lays: beside it there are the data block and the inode of the top directory.
func TestP1001Sizes(t *testing.T) {
	for _, x := range []struct{ size, rows, inners, levels int }{
		{0, 0, 0, 0}, {1, 1, 0, 0}, {63, 1, 0, 0}, {64, 1, 0, 0}, {65, 2, 1, 1}, {127, 2, 1, 1}, {128, 2, 1, 1}, {129, 3, 1, 1},
		{448, 7, 1, 1}, {449, 8, 1, 1}, {511, 8, 1, 1}, {512, 8, 1, 1}, {513, 9, 3, 2}, {576, 9, 3, 2}, {577, 10, 3, 2}, {960, 15, 3, 2}, {961, 16, 3, 2}, {1000, 16, 3, 2},
	} {
		y := built(t, []api.Item{{Path: "/a", Data: row(x.size, 0)}})
		if got := kindsOf(y.Blocks); got != [3]int{x.rows + 1, x.inners, 2} {
			t.Errorf("%d: %v", x.size, got)
		}
		n, e := Find(y, "/a")
		if e != api.OK || n.Kind != api.File || n.Size != x.size || n.Levels != x.levels || (n.Top == api.Id{}) != (x.size == 0) {
			t.Errorf("%d: %+v, %v", x.size, n, e)
		}
	}
}

// The blocks of a file of two rows and of one of nine, written out.
func TestP1001WrittenOut(t *testing.T) {
	for _, size := range []int{1, 63, 64, 65, 100, 513, 600} {
		b := row(size, 0)
		k := laid{}
		var ids []api.Id
		for at := 0; at < size; at += 64 {
			ids = append(ids, k.lay("d"+string(b[at:min(at+64, size)])))
		}
		top, levels := ids[0], byte(0)
		if len(ids) > 8 {
			eight, rest := k.lay(innerText(ids[:8]...)), k.lay(innerText(ids[8:]...))
			top, levels = k.lay(innerText(eight, rest)), 2
		} else if len(ids) > 1 {
			top, levels = k.lay(innerText(ids...)), 1
		}
		file := k.lay("i" + text(1, 0, 0, byte(size>>8), byte(size), levels) + text(top[:]...))
		entries := k.lay("d" + text(2) + "ab" + text(file[:]...))
		node := k.lay("i" + text(2, 0, 0, 0, 35, 0) + text(entries[:]...))
		if got := built(t, []api.Item{{Path: "/ab", Data: b}}); !same(got, k.tree(node)) {
			t.Errorf("%d: %x", size, got.Blocks)
		}
	}
}

func TestP1001EverySize(t *testing.T) {
	for size := range 1001 {
		for _, data := range [][]byte{row(size, size), make([]byte, size)} {
			l := []api.Item{{Path: "/a", Data: data}}
			x := tryBuild(t, l)
			trySound(t, x, true)
			if got, e := Read(x, "/a", 0, 1000); e != api.OK || !bytes.Equal(got, data) {
				t.Fatalf("%d: %v", size, e)
			}
		}
	}
}

// A directory's bytes are cut as a file's are: up to two levels of them.
func TestP1001Directories(t *testing.T) {
	levels := map[int]int{}
	for count := range 21 {
		for _, long := range []int{1, 7, 12} {
			var l []api.Item
			for k := range count {
				l = append(l, api.Item{Path: "/sub/" + strings.Repeat("\U0001f600", long-1) + string(rune('a'+k))})
			}
			x := tryBuild(t, l)
			trySound(t, x, true)
			n, e := Find(x, "/sub")
			if count == 0 {
				continue
			}
			size := count * (1 + 4*(long-1) + 1 + 32)
			if e != api.OK || n.Kind != api.Dir || n.Size != size {
				t.Errorf("%d, %d: %+v, %v", count, long, n, e)
			}
			levels[n.Levels]++
			if names, e := List(x, "/sub"); e != api.OK || len(names) != count {
				t.Errorf("%d: %v, %v", count, names, e)
			}
		}
	}
	if levels[0] == 0 || levels[1] == 0 || levels[2] == 0 {
		t.Error(levels)
	}
}

func TestP1001AlikeShare(t *testing.T) {
	zeros := make([]byte, 1000)
	for i, x := range []struct {
		l    []api.Item
		want [3]int // behind the top directory's
	}{
		{[]api.Item{{Path: "/a", Data: zeros[:512]}}, [3]int{1, 1, 1}},
		{[]api.Item{{Path: "/a", Data: zeros}}, [3]int{2, 3, 1}},                                                                                             // 15 rows of 64, one of 40
		{[]api.Item{{Path: "/a", Data: zeros[:960]}}, [3]int{1, 3, 1}},                                                                                       // eight and seven
		{[]api.Item{{Path: "/a", Data: row(100, 0)}, {Path: "/b", Data: row(100, 0)}}, [3]int{2, 1, 1}},                                                      // two files
		{[]api.Item{{Path: "/a", Data: row(100, 0)}, {Path: "/b", Data: row(64, 0)}}, [3]int{2, 1, 2}},                                                       // the first row
		{[]api.Item{{Path: "/a", Data: row(512, 0)}, {Path: "/b", Data: row(513, 0)}}, [3]int{9, 3, 2}},                                                      // a top that is another's inner block
		{[]api.Item{{Path: "/a"}, {Path: "/b"}}, [3]int{0, 0, 1}},                                                                                            // none
		{[]api.Item{{Path: "/a/x", Data: row(64, 0)}, {Path: "/b/x", Data: row(64, 0)}}, [3]int{2, 0, 2}},                                                    // two directories
		{[]api.Item{{Path: "/a/x"}, {Path: "/b", Data: []byte(entryText("x", laid{}.file(api.File, "")))}}, [3]int{1, 0, 3}},                                 // a directory's bytes as a file's
		{[]api.Item{{Path: "/a/x/x/x"}, {Path: "/b/x/x"}, {Path: "/c/x"}, {Path: "/d"}}, [3]int{3, 0, 4}},                                                    // each lies in the next
		{[]api.Item{{Path: "/a", Data: row(64, 0)}, {Path: "/b", Data: append([]byte("d"), row(64, 0)...)}, {Path: "/c", Data: row(1, 0)}}, [3]int{4, 1, 3}}, // a block as bytes
	} {
		y := tryBuild(t, x.l)
		trySound(t, y, true)
		got := kindsOf(y.Blocks)
		top := len(x.l) * 34
		want := x.want
		want[0] += (top + 63) / 64
		want[2]++
		if top > 64 {
			want[1]++
		}
		if got != want {
			t.Errorf("%d: %v, not %v", i, got, want)
		}
	}
}

func TestP1002RisingOnce(t *testing.T) {
	for seed := range 20 {
		l := several()
		for i := range l {
			l[i].Data = append(l[i].Data[:min(900, len(l[i].Data))], row(100, seed)...)
		}
		x := tryBuild(t, l)
		for i, b := range x.Blocks {
			if i > 0 && bytes.Compare(x.Blocks[i-1].Key[:], b.Key[:]) >= 0 || b.Source != 0 || b.Expires != 0 {
				t.Errorf("%d: %d", seed, i)
			}
		}
	}
}

func TestP1002Counts(t *testing.T) {
	for count := range 24 {
		want := api.OK
		if count > 20 {
			want = api.ErrMany
		}
		if _, e := Build(numbered(count)); e != want {
			t.Errorf("%d: %v", count, e)
		}
		tryBuild(t, numbered(count))
	}
	for _, count := range []int{255, 256, 257, 276, 10000} {
		tryBuild(t, numbered(count))
	}
}

// wrongItems are none, by the error that they have.
func wrongItems() map[api.Errno][]api.Item {
	long := make([]byte, 1001)
	return map[api.Errno][]api.Item{
		api.ErrName: append(items("/", "", "a", "a/b", "//", "/a/", "/a//b", "//a", "/.", "/a/..", "/a/./b", "/\x1f", "/a\x7f"), api.Item{Path: "/", Data: long}, api.Item{Path: "a", Data: long}),
		api.ErrMany: append(items("/1/2/3/4/5/6", "/1/2/3/4/5/\xff", "//////a", "/1/2/3/4/5/6/7/8/9"), api.Item{Path: "/1/2/3/4/5/6", Data: long}),
		api.ErrBad:  append(items("/\xff", "/a/\x80", "/a/\xed\xa0\x80/b", "/\xff/."), api.Item{Path: "/\xff", Data: long}),
		api.ErrLong: append(items("/xxxxxxxxxxxxx", "/a/"+strings.Repeat("\u20ac", 13)), api.Item{Path: "/a", Data: long}, api.Item{Path: "/1/2/3/4/5", Data: long}, api.Item{Path: "/a", Data: make([]byte, 5000)}),
	}
}

func refused(t *testing.T, l []api.Item, want api.Errno) {
	t.Helper()
	x, e := Build(l)
	if e != want || len(x.Blocks) != 0 || x.Node != (api.Id{}) {
		t.Errorf("%s: %v, not %v", shown(l), e, want)
	}
	tryBuild(t, l)
}

func TestP1002WrongItems(t *testing.T) {
	for want, l := range wrongItems() {
		for _, wrong := range l {
			refused(t, []api.Item{wrong}, want)
			refused(t, append(items("/a", "/b"), wrong), want)
			refused(t, append([]api.Item{wrong}, items("/a", "/b")...), want)
			refused(t, append(numbered(19), wrong), want)
			// ErrMany of all goes ahead of each item's, and each item's ahead of ErrIs.
			refused(t, append(numbered(20), wrong), api.ErrMany)
			refused(t, append([]api.Item{wrong}, numbered(20)...), api.ErrMany)
			refused(t, append(items("/a", "/a"), wrong), want)
			refused(t, append(items("/a", "/a/b"), wrong), want)
			refused(t, append([]api.Item{wrong}, items("/a/b", "/a")...), want)
			refused(t, []api.Item{wrong, wrong}, want)
		}
	}
}

// Of several items that are none the first one counts, whatever they have.
func TestP1002FirstWrongItem(t *testing.T) {
	all := wrongItems()
	for want, firsts := range all {
		for _, others := range all {
			for _, first := range firsts {
				for _, other := range others {
					refused(t, append(items("/x"), first, other), want)
				}
			}
		}
	}
}

func TestP1002Lengths(t *testing.T) {
	for _, size := range []int{998, 999, 1000} {
		tryBuild(t, []api.Item{{Path: "/a", Data: row(size, 0)}})
		built(t, []api.Item{{Path: "/a", Data: row(size, 0)}, {Path: "/b", Data: row(size, 1)}})
	}
	for _, size := range []int{1001, 1002, 1024, 1256, 65536, 66536, 1 << 20} {
		refused(t, []api.Item{{Path: "/a", Data: make([]byte, size)}}, api.ErrLong)
		refused(t, []api.Item{{Path: "/b"}, {Path: "/a", Data: make([]byte, size)}}, api.ErrLong)
	}
}

func TestP1002Through(t *testing.T) {
	for _, x := range []struct {
		paths []string
		want  api.Errno
	}{
		{[]string{"/a", "/a"}, api.ErrIs},
		{[]string{"/a", "/b", "/a"}, api.ErrIs},
		{[]string{"/a/b", "/a/b"}, api.ErrIs},
		{[]string{"/a", "/a/b"}, api.ErrIs},
		{[]string{"/a", "/a/b/c/d/e"}, api.ErrIs},
		{[]string{"/a/b/c/d", "/a/b/c/d/e"}, api.ErrIs},
		{[]string{"/a", "/a-b", "/a/b"}, api.ErrIs},
		{[]string{"/a", "/a b", "/a-b", "/aa", "/a/b", "/b"}, api.ErrIs},
		{[]string{"/a", "/a!/b", "/a!", "/c"}, api.ErrIs},
		{[]string{"/b/a", "/b/a/x", "/c"}, api.ErrIs},
		{[]string{"/a/b", "/a/c", "/a/d", "/a"}, api.ErrIs},
		{[]string{"/a", "/b", "/c", "/d", "/e", "/f", "/g", "/c"}, api.ErrIs},
		{[]string{"/a/b/c", "/a/b/d", "/x", "/a/b"}, api.ErrIs},
		{[]string{"/\u20ac/\u20ac", "/\u20ac"}, api.ErrIs},
		{[]string{"/a", "/ab", "/a2/b"}, api.OK},
		{[]string{"/a", "/b/a", "/b/b/a"}, api.OK},
		{[]string{"/a/a", "/aa", "/a-a"}, api.OK},
		{[]string{"/a/a/a/a/a", "/a/a/a/a/b", "/a/a/a/b", "/a/a/b", "/a/b", "/b"}, api.OK},
		{[]string{"/a", "/A", "/a ", "/ a"}, api.OK},
		{[]string{"/e\u0301", "/\u00e9/x"}, api.OK},
		{[]string{"/ab", "/a"}, api.OK},
	} {
		for seed := range 30 {
			l := items(x.paths...)
			rand.New(rand.NewSource(int64(seed))).Shuffle(len(l), func(i, j int) { l[i], l[j] = l[j], l[i] })
			if seed == 1 {
				slices.Reverse(l)
			}
			if _, e := Build(l); e != x.want {
				t.Errorf("%v: %v, not %v", l, e, x.want)
			}
			tryBuild(t, l)
		}
	}
}

// Two files are alike in all but their paths: they are two all the same; one with other bytes is none the less twice.
func TestP1002TwiceWithOtherBytes(t *testing.T) {
	refused(t, []api.Item{{Path: "/a", Data: []byte("1")}, {Path: "/a", Data: []byte("2")}}, api.ErrIs)
	refused(t, []api.Item{{Path: "/a", Data: []byte("1")}, {Path: "/a/b", Data: []byte("1")}}, api.ErrIs)
	if x := built(t, []api.Item{{Path: "/a", Data: []byte("1")}, {Path: "/b", Data: []byte("1")}}); len(x.Blocks) != 6 {
		t.Error(len(x.Blocks))
	}
}

func TestP1002Depths(t *testing.T) {
	for depth := 1; depth <= 5; depth++ {
		path := strings.Repeat("/d", depth)
		l := []api.Item{{Path: path, Data: row(70, depth)}}
		for up := 1; up < depth; up++ {
			l = append(l, api.Item{Path: path[:2*up] + "/x", Data: row(up, depth)})
		}
		x := tryBuild(t, l)
		for up := range depth {
			n, e := Find(x, path[:max(2*up, 1)])
			if up == 0 {
				n, e = Find(x, "/")
			}
			if e != api.OK || n.Kind != api.Dir {
				t.Errorf("%d, %d: %v, %v", depth, up, n, e)
			}
		}
		if n, e := Find(x, path); e != api.OK || n.Kind != api.File || n.Size != 70 {
			t.Errorf("%d: %v, %v", depth, n, e)
		}
		tryTree(t, x, "/", path, path[:2], path[:2]+"/x", path+"/d")
		trySound(t, x, true)
	}
}

// Names stand byte by byte, however their paths would.
func TestP1002OrderOfNames(t *testing.T) {
	l := items("/b", "/a/x", "/a-b", "/a b/y", "/B", "/\u20ac", "/\uffff", "/\U00010000", "/~", "/10", "/9", "/a0")
	x := tryBuild(t, l)
	want := []string{"10", "9", "B", "a", "a b", "a-b", "a0", "b", "~", "\u20ac", "\uffff", "\U00010000"}
	if got, e := List(x, "/"); e != api.OK || !slices.Equal(got, want) {
		t.Errorf("%q, %v", got, e)
	}
}

// someItems are few files, or many, of few names, so that they meet.
func someItems(r *rand.Rand) []api.Item {
	var l []api.Item
	pool := []string{"a", "b", "a-b", "\u20ac", "xxxxxxxxxxxx", "0"}
	for range r.Intn(22) {
		path := ""
		for range 1 + r.Intn(5) {
			path += "/" + pool[r.Intn(len(pool))]
		}
		if r.Intn(60) == 0 {
			path += []string{"/", "/\xff", "/1/2/3/4/5", "/..", "/xxxxxxxxxxxxx"}[r.Intn(5)]
		}
		size := []int{0, 1, 63, 64, 65, 512, 513, 1000, r.Intn(1001)}[r.Intn(9)]
		if r.Intn(200) == 0 {
			size = 1001
		}
		l = append(l, api.Item{Path: path, Data: row(size, r.Intn(2))})
	}
	if r.Intn(4) > 0 {
		l = apart(l)
	}
	return l
}

// apart is those of l that none ahead of them bars.
func apart(l []api.Item) []api.Item {
	var few []api.Item
	for _, x := range l {
		if _, e := saidBuild(append(slices.Clone(few), x)); e == api.OK {
			few = append(few, x)
		}
	}
	return few
}

func TestP1002AnyItems(t *testing.T) {
	r := rand.New(rand.NewSource(1002))
	told := map[api.Errno]int{}
	for range 1500 {
		l := someItems(r)
		_, e := Build(l)
		told[e]++
		tryBuild(t, l)
	}
	for _, e := range []api.Errno{api.OK, api.ErrIs, api.ErrMany, api.ErrName, api.ErrBad, api.ErrLong} {
		if told[e] == 0 {
			t.Errorf("never %v: %v", e, told)
		}
	}
}

// Each order of a few files, and some of many.
func TestP1007Orders(t *testing.T) {
	l := []api.Item{{Path: "/a/b", Data: row(65, 0)}, {Path: "/a/c"}, {Path: "/a-b", Data: row(3, 0)}, {Path: "/b/a/c", Data: row(65, 0)}}
	want := built(t, l)
	var orders func(ahead, rest []api.Item)
	orders = func(ahead, rest []api.Item) {
		if len(rest) == 0 && !same(built(t, ahead), want) {
			t.Errorf("%v", ahead)
		}
		for i := range rest {
			orders(append(slices.Clone(ahead), rest[i]), slices.Delete(slices.Clone(rest), i, i+1))
		}
	}
	orders(nil, l)
	r := rand.New(rand.NewSource(1007))
	for range 200 {
		l := apart(someItems(r))
		want := built(t, l)
		r.Shuffle(len(l), func(i, j int) { l[i], l[j] = l[j], l[i] })
		if !same(built(t, l), want) {
			t.Errorf("%v", l)
		}
	}
}

func TestP1003Beside(t *testing.T) {
	now, old := built(t, several()), built(t, several()[:6])
	for _, x := range []Tree{now, old, {}, {Node: now.Node}, built(t, nil), {Blocks: now.Blocks[3:9]}} {
		for _, y := range []Tree{now, old, {}, {Node: now.Node}, built(t, nil), {Blocks: now.Blocks[3:9]}} {
			tryFresh(t, x, y)
		}
		if l := Fresh(x, x); len(l) != 0 {
			t.Errorf("%d beside itself", len(l))
		}
		if l := Fresh(x, Tree{}); !slices.EqualFunc(l, x.Blocks, sameBlock) {
			t.Errorf("%d beside none", len(l))
		}
		if l := Fresh(Tree{}, x); len(l) != 0 {
			t.Errorf("%d of none", len(l))
		}
	}
}

// One byte of one file is another: its data block, those that lead to it, and the inodes and bytes of the directories above are new.
func TestP1003OneByte(t *testing.T) {
	l := []api.Item{{Path: "/a/b", Data: row(1000, 0)}, {Path: "/a/c", Data: row(1000, 1)}, {Path: "/d", Data: row(1000, 2)}}
	old := built(t, l)
	l[0].Data = row(1000, 0)
	l[0].Data[500] ^= 1
	now := built(t, l)
	fresh := Fresh(now, old)
	tryFresh(t, now, old)
	// Of /a: 68 bytes, of which the node of b has its last byte in the first row.
	if got := kindsOf(fresh); got != [3]int{1 + 1 + 1, 2 + 1 + 1, 3} {
		t.Errorf("%v", got)
	}
}

// Keys alone count, wherever they stand, and whatever else their blocks say; the blocks stay as they stand.
func TestP1003AsTheyStand(t *testing.T) {
	block := func(key byte, data string, source, expires int) api.Block {
		return api.Block{Key: api.Id{key}, Data: []byte(data), Source: source, Expires: expires}
	}
	x := Tree{Blocks: []api.Block{block(3, "x", 1, 2), block(1, "", 0, -1), block(2, "yy", -5, 0), block(3, "z", 7, 9), block(1, "q", 0, 0)}}
	for _, old := range [][]api.Block{nil, {block(3, "other", 0, 0)}, {block(1, "", 0, -1)}, {block(2, "", 4, 4), block(2, "yy", -5, 0)}, {block(9, "x", 1, 2)}, {block(2, "", 0, 0), block(1, "", 0, 0), block(3, "", 0, 0)}} {
		tryFresh(t, x, Tree{Blocks: old})
	}
	if l := Fresh(x, Tree{Blocks: []api.Block{block(1, "x", 1, 2)}}); !slices.EqualFunc(l, []api.Block{x.Blocks[0], x.Blocks[2], x.Blocks[3]}, sameBlock) {
		t.Errorf("%v", l)
	}
	// The low bytes of a key count, too.
	far := api.Block{}
	far.Key[31] = 1
	tryFresh(t, Tree{Blocks: []api.Block{{}, far}}, Tree{Blocks: []api.Block{{}}})
}
