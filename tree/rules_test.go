package tree

import (
	"bytes"
	"fmt"
	"math"
	"math/rand"
	"slices"
	"strings"
	"sync"
	"testing"

	"lattice/api"
)

const (
	spare   = 40 // bytes behind what is handed in that are not its own
	unused  = 0x5a
	trodden = 0xee
)

// roomy is b with room behind it that is somebody else's.
func roomy(b []byte) []byte {
	room := append(slices.Clone(b), bytes.Repeat([]byte{unused}, spare)...)
	return room[:len(b)]
}

// keptWhole tells whether room still holds b, and behind it what was there.
func keptWhole(room, b []byte) bool {
	all := room[:cap(room)]
	return bytes.HasPrefix(all, b) && bytes.Count(all[len(b):len(b)+spare], []byte{unused}) == spare
}

// tread writes over a list and its spare room.
func tread(b []byte) {
	b = b[:cap(b)]
	for i := range b {
		b[i] = trodden
	}
}

// roomyItems are those items, with room behind each one's bytes and behind the list.
func roomyItems(l []api.Item) []api.Item {
	room := make([]api.Item, len(l), len(l)+3)
	for i, x := range l {
		room[i] = api.Item{Path: x.Path, Data: roomy(x.Data)}
	}
	for i := len(l); i < cap(room); i++ {
		room[:cap(room)][i] = api.Item{Path: "/spare"}
	}
	return room
}

func roomyTree(x Tree) Tree {
	room := make([]api.Block, len(x.Blocks), len(x.Blocks)+3)
	for i, b := range x.Blocks {
		b.Data = roomy(b.Data)
		room[i] = b
	}
	for i := len(x.Blocks); i < cap(room); i++ {
		room[:cap(room)][i] = api.Block{Source: unused}
	}
	return Tree{Blocks: room, Node: x.Node}
}

// leftItems tells whether roomy items are as they were handed in.
func leftItems(room, l []api.Item) bool {
	for i, x := range l {
		if room[i].Path != x.Path || !keptWhole(room[i].Data, x.Data) {
			return false
		}
	}
	for _, x := range room[:cap(room)][len(l):] {
		if x.Path != "/spare" || x.Data != nil {
			return false
		}
	}
	return len(room) == len(l)
}

// leftTree likewise.
func leftTree(room, x Tree) bool {
	for i, b := range x.Blocks {
		if !sameBlock(room.Blocks[i], b) || !keptWhole(room.Blocks[i].Data, b.Data) {
			return false
		}
	}
	for _, b := range room.Blocks[:cap(room.Blocks)][len(x.Blocks):] {
		if !sameBlock(b, api.Block{Source: unused}) {
			return false
		}
	}
	return room.Node == x.Node && len(room.Blocks) == len(x.Blocks)
}

func TestP2BuildLeavesItems(t *testing.T) {
	r := rand.New(rand.NewSource(2))
	for range 500 {
		l := someItems(r)
		room := roomyItems(l)
		Build(room)
		if !leftItems(room, l) {
			t.Fatalf("%s", shown(room))
		}
	}
	l := several()
	room := roomyItems(l)
	x := built(t, room)
	want := built(t, l)
	for i := range room {
		tread(room[i].Data)
		room[i].Path = "/over"
	}
	if !same(x, want) {
		t.Error("what was built lies in what was handed in")
	}
}

// No two blocks share any memory, nor do two trees, nor a tree and the items.
func TestP2BlocksApart(t *testing.T) {
	l := several()
	room := roomyItems(l)
	want := built(t, l)
	for i := range want.Blocks {
		x := built(t, room)
		y := built(t, room)
		tread(x.Blocks[i].Data)
		for j := range x.Blocks {
			if i != j && !sameBlock(x.Blocks[j], want.Blocks[j]) {
				t.Fatalf("%d lies in %d", j, i)
			}
		}
		clear(x.Blocks[:cap(x.Blocks)])
		if !same(y, want) || !leftItems(room, l) {
			t.Fatalf("%d", i)
		}
	}
}

func TestP2FreshIsNew(t *testing.T) {
	now, old := built(t, several()), built(t, several()[:5])
	for _, beside := range []Tree{old, {}} {
		one, two := roomyTree(now), roomyTree(beside)
		want := saidFresh(now, beside)
		for i := range want {
			l := Fresh(one, two)
			again := Fresh(one, two)
			tread(l[i].Data)
			for j := range l {
				if i != j && !sameBlock(l[j], want[j]) {
					t.Fatalf("%d lies in %d", j, i)
				}
			}
			clear(l[:cap(l)])
			if !slices.EqualFunc(again, want, sameBlock) || !leftTree(one, now) || !leftTree(two, beside) {
				t.Fatalf("%d", i)
			}
		}
		l := Fresh(one, two)
		for _, b := range one.Blocks {
			tread(b.Data)
		}
		clear(one.Blocks)
		if !slices.EqualFunc(l, want, sameBlock) {
			t.Error("they lie in the tree")
		}
	}
}

func TestP2ReadersLeaveTheTree(t *testing.T) {
	r := rand.New(rand.NewSource(22))
	trees := append(soundTrees(t), without(built(t, several()), 7), Tree{})
	for range 100 {
		trees = append(trees, anyTree(r))
	}
	for _, x := range trees {
		room := roomyTree(x)
		for _, path := range severalPaths {
			Find(room, path)
			l, _ := List(room, path)
			b, _ := Read(room, path, 3, 700)
			whole, _ := Read(room, path, 0, 64)
			clear(l[:cap(l)])
			tread(b)
			tread(whole)
		}
		Sound(room)
		if !leftTree(room, x) {
			t.Fatalf("%s", shown(room))
		}
	}
}

func TestP2ReadersAnswersStay(t *testing.T) {
	x := built(t, several())
	for _, f := range several() {
		room := roomyTree(x)
		b, e := Read(room, f.Path, 0, 1000)
		l, e2 := List(room, "/")
		n, e3 := Find(room, f.Path)
		for _, b := range room.Blocks {
			tread(b.Data)
		}
		clear(room.Blocks)
		names, _ := List(x, "/")
		inode, _ := Find(x, f.Path)
		if e != api.OK || e2 != api.OK || e3 != api.OK || !bytes.Equal(b, f.Data) || !slices.Equal(l, names) || n != inode {
			t.Errorf("%s: %v, %v, %v", f.Path, e, e2, e3)
		}
	}
}

func TestP2NoneAndEmptyAreTheSame(t *testing.T) {
	for _, none := range [][]byte{nil, {}, make([]byte, 0, 9)} {
		if !same(built(t, []api.Item{{Path: "/a", Data: none}}), built(t, items("/a"))) {
			t.Error("an item")
		}
		k := laid{}
		k.lay("")
		x := Tree{Blocks: []api.Block{{Key: api.Id(k.lay("")), Data: none}}}
		tryFresh(t, x, Tree{})
		tryPath(t, x, "/")
		x.Node = x.Blocks[0].Key
		fails(t, x, "/", api.ErrCut)
		trySound(t, x, false)
	}
	for _, none := range [][]api.Block{nil, {}, make([]api.Block, 0, 9)} {
		x := built(t, several())
		fails(t, Tree{Blocks: none, Node: x.Node}, "/", api.ErrGone)
		trySound(t, Tree{Blocks: none, Node: x.Node}, false)
		tryFresh(t, x, Tree{Blocks: none})
		tryFresh(t, Tree{Blocks: none}, x)
	}
}

// told is all that the calls say of a tree.
func told(x Tree) string {
	all := fmt.Sprint(Sound(x), Fresh(x, Tree{}))
	for _, path := range severalPaths {
		n, e1 := Find(x, path)
		l, e2 := List(x, path)
		b, e3 := Read(x, path, 60, 700)
		all += fmt.Sprint(n, e1, l, e2, b, e3)
	}
	return all
}

// What was asked before is not seen in an answer, nor who asks at the same time.
func TestP3SameCallsSameAnswers(t *testing.T) {
	x := built(t, several())
	trees := []Tree{x, without(x, 3), without(x, 20), built(t, nil), built(t, several()[2:]), {}, {Blocks: x.Blocks}}
	var before []string
	for _, x := range trees {
		before = append(before, told(x))
	}
	var all sync.WaitGroup
	for seed := range 8 {
		all.Go(func() {
			for _, i := range rand.New(rand.NewSource(int64(seed))).Perm(4 * len(trees)) {
				if told(trees[i%len(trees)]) != before[i%len(trees)] {
					t.Errorf("%d", i%len(trees))
				}
				if !same(built(t, several()), x) {
					t.Error("built anew")
				}
			}
		})
	}
	all.Wait()
}

// Blocks that by their Keys lead round to themselves do not count: no hash does.
func TestP1RoundToThemselves(t *testing.T) {
	block := func(key byte, all string) api.Block { return api.Block{Key: api.Id{key}, Data: []byte(all)} }
	id := func(key byte) api.Id { return api.Id{key} }
	dir := entryText("a", id(1))
	round := []api.Block{
		block(1, inodeText(api.Dir, len(dir), 0, id(2))), block(2, "d"+dir),
		block(3, inodeText(api.Dir, 500, 1, id(4))), block(4, innerText(id(4), id(4), id(4), id(4), id(4), id(4), id(4), id(4))),
		block(5, inodeText(api.File, 1<<20, 5, id(4))), block(6, inodeText(api.Dir, 38, 0, id(6))),
	}
	for node := range byte(8) {
		x := Tree{Blocks: round, Node: id(node)}
		for _, path := range []string{"/", "/a", "/a/a/a/a/a"} {
			fails(t, x, path, api.ErrGone)
		}
		trySound(t, x, false)
		tryFresh(t, x, x)
	}
	// Behind a block that does count.
	k := laid{}
	for node := range byte(8) {
		x := k.under("a", id(node))
		x.Blocks = append(x.Blocks, round...)
		fails(t, x, "/a/a/a/a/a", api.ErrGone)
		trySound(t, x, false)
		x = k.under("a", fileOver(k, 1<<20, 5, id(node)))
		x.Blocks = append(x.Blocks, round...)
		if _, e := Read(x, "/a", 0, math.MaxInt); e != api.ErrGone {
			t.Error(e)
		}
		trySound(t, x, false)
	}
}

func TestP1LongRows(t *testing.T) {
	long := strings.Repeat("/a", 1<<20)
	x := built(t, several())
	for path, want := range map[string]api.Errno{long: api.ErrMany, strings.Repeat("/", 1<<20): api.ErrName, "/" + strings.Repeat("x", 1<<20): api.ErrLong, "/" + strings.Repeat("\xff", 1<<20): api.ErrBad} {
		refused(t, items(path), want)
		if n, e := Find(x, path); e != want || n.Kind != 0 {
			t.Error(e)
		}
	}
	big := make([]byte, 1<<22)
	k := laid{}
	y := k.under("a", fileOver(k, 64, 0, k.lay("d"+string(big))))
	if _, e := Read(y, "/a", 0, 1); e != api.ErrBad {
		t.Error(e)
	}
	trySound(t, y, false)
	many := make([]api.Block, 200000)
	for i := range many {
		many[i] = api.Block{Key: x.Node, Data: []byte{byte(i), byte(i >> 8)}}
	}
	y = Tree{Node: x.Node, Blocks: append(many, x.Blocks...)}
	if b, e := Read(y, "/z", 0, 1000); e != api.OK || !bytes.Equal(b, row(1000, 0)) {
		t.Error(e)
	}
	trySound(t, y, false)
	if l := Fresh(y, Tree{}); len(l) != len(y.Blocks) {
		t.Error(len(l))
	}
}

// texts are the parts of some bytes, each of which has its length ahead.
func texts(b []byte) []string {
	var l []string
	for len(b) > 0 {
		end := min(1+int(b[0]), len(b))
		l = append(l, string(b[1:end]))
		b = b[end:]
	}
	return l
}

func FuzzP1004AnyBlocks(f *testing.F) {
	whole := func(l ...string) []byte {
		var b []byte
		for _, x := range l {
			b = append(append(b, byte(len(x))), x...)
		}
		return b
	}
	f.Add([]byte(nil), "/", 0, 9)
	f.Add(whole("dabc", inodeText(api.File, 3, 0, api.Id(laid{}.lay("dabc")))), "/", 1, 1)
	k := laid{}
	all := entryText("a", k.file(api.File, "abc"))
	f.Add(whole("dabc", inodeText(api.File, 3, 0, k.lay("dabc")), "d"+all, inodeText(api.Dir, len(all), 0, k.lay("d"+all))), "/a", 0, 2)
	f.Fuzz(func(t *testing.T, b []byte, path string, off, n int) {
		k := laid{}
		var node api.Id
		for _, all := range texts(b) {
			node = k.lay(all)
		}
		x := k.tree(node)
		tryPath(t, x, path)
		tryPath(t, x, "/")
		tryRead(t, x, path, off, n)
		trySound(t, x, saidSound(x))
		x = k.under("a", node)
		tryPath(t, x, "/a")
		tryRead(t, x, "/a", off, n)
		trySound(t, x, saidSound(x))
	})
}

// A tree of which one byte is another, and those above it lead to it all the same.
func FuzzP1006Turned(f *testing.F) {
	f.Add(int64(1), 3, 5, byte(1))
	f.Fuzz(func(t *testing.T, seed int64, i, at int, by byte) {
		x := anyTree(rand.New(rand.NewSource(seed)))
		if i >= 0 && at >= 0 && len(x.Blocks) > 0 {
			x = changed(x, i%len(x.Blocks), func(b *api.Block) { b.Data[at%len(b.Data)] ^= by })
		}
		tryTree(t, x, "/", "/a", "/b", "/c/d")
		x = reached(x)
		trySound(t, x, saidSound(x))
	})
}

func FuzzP1002Build(f *testing.F) {
	f.Add("/a", "/b", "/a/b", []byte("abc"))
	f.Add("/a/b", "/a-b", "/a/b/c/d/e", []byte(nil))
	f.Add("/", "", "/\xff", make([]byte, 1001))
	f.Fuzz(func(t *testing.T, one, two, three string, data []byte) {
		l := []api.Item{{Path: one, Data: data}, {Path: two, Data: data[:len(data)/2]}, {Path: three}}
		x := tryBuild(t, l)
		trySound(t, x, len(x.Blocks) > 0)
		for _, f := range l {
			tryPath(t, x, f.Path)
		}
	})
}
