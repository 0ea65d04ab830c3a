package tree

import (
	"bytes"
	"math"
	"math/rand"
	"slices"
	"strings"
	"testing"

	"lattice/api"
	"lattice/blob"
)

// soundTrees are some of all kinds.
func soundTrees(t testing.TB) []Tree {
	deep := items("/1/2/3/4/5", "/1/2/3/4/6", "/1/2/3/x", "/a")
	return []Tree{built(t, nil), built(t, items("/a")), built(t, several()), built(t, numbered(20)), built(t, deep), built(t, []api.Item{{Path: "/a", Data: row(1000, 0)}})}
}

func TestP1007BuiltIsSound(t *testing.T) {
	for _, x := range soundTrees(t) {
		trySound(t, x, true)
		if !saidSound(x) {
			t.Error("as it was said it is not")
		}
	}
	r := rand.New(rand.NewSource(1007))
	for range 300 {
		l := apart(someItems(r))
		x := built(t, l)
		trySound(t, x, true)
		for _, f := range l {
			off, n := r.Intn(1001), r.Intn(1001)
			want := f.Data[min(off, len(f.Data)):]
			want = want[:min(n, len(want))]
			all, e := Read(x, f.Path, 0, 1000)
			part, e2 := Read(x, f.Path, off, n)
			if e != api.OK || e2 != api.OK || !bytes.Equal(all, f.Data) || !bytes.Equal(part, want) {
				t.Fatalf("%s: %v, %v", f.Path, e, e2)
			}
		}
	}
}

// changed is a tree that has another i-th block.
func changed(x Tree, i int, change func(b *api.Block)) Tree {
	y := Tree{Node: x.Node, Blocks: slices.Clone(x.Blocks)}
	y.Blocks[i].Data = bytes.Clone(y.Blocks[i].Data)
	change(&y.Blocks[i])
	return y
}

func TestP1006EachBlockCounts(t *testing.T) {
	changes := []func(b *api.Block){
		func(b *api.Block) { b.Source = 1 },
		func(b *api.Block) { b.Source = -1 },
		func(b *api.Block) { b.Source = math.MinInt },
		func(b *api.Block) { b.Expires = 1 },
		func(b *api.Block) { b.Expires = -1 },
		func(b *api.Block) { b.Expires = math.MinInt },
		func(b *api.Block) { b.Source, b.Expires = 1, -1 },
		func(b *api.Block) { b.Key[0] ^= 0x80 },
		func(b *api.Block) { b.Key[31] ^= 1 },
		func(b *api.Block) { b.Key = api.Id{} },
		func(b *api.Block) { b.Data = append(b.Data, 0) },
		func(b *api.Block) { b.Data = b.Data[:len(b.Data)-1] },
		func(b *api.Block) { b.Data = nil },
	}
	for _, x := range soundTrees(t) {
		for i := range x.Blocks {
			trySound(t, without(x, i), false)
			trySound(t, changed(x, i, func(*api.Block) {}), true)
			for _, change := range changes {
				trySound(t, changed(x, i, change), false)
			}
			for at := range x.Blocks[i].Data {
				trySound(t, changed(x, i, func(b *api.Block) { b.Data[at] ^= byte(1 << (at % 8)) }), false)
			}
			trySound(t, changed(x, i, func(b *api.Block) { b.Data = slices.Grow(b.Data, 9) }), true)
		}
	}
}

func TestP1006TheseAlone(t *testing.T) {
	for _, x := range soundTrees(t) {
		other := []string{"dmore", "", "x", "i", inodeText(api.File, 1, 0, gone), inodeText(api.File, 0, 0, api.Id{}) + "x", innerText(x.Node), entryText("a", x.Node)}
		for _, all := range other {
			k := laid{}
			id := k.lay(all)
			more := append(slices.Clone(x.Blocks), api.Block{Key: id, Data: []byte(all)}, api.Block{Key: gone, Data: []byte(all)})
			for _, y := range []Tree{{Blocks: more[:len(more)-1]}, {Blocks: slices.Delete(slices.Clone(more), len(more)-2, len(more)-1)}, {Blocks: more}} {
				y.Node = x.Node
				slices.SortFunc(y.Blocks, func(a, b api.Block) int { return bytes.Compare(a.Key[:], b.Key[:]) })
				trySound(t, y, false)
			}
		}
		for i, b := range x.Blocks {
			// One block twice, side by side and elsewhere; and beside one that lies.
			trySound(t, Tree{Node: x.Node, Blocks: slices.Insert(slices.Clone(x.Blocks), i, b)}, false)
			trySound(t, Tree{Node: x.Node, Blocks: append(slices.Clone(x.Blocks), b)}, false)
			trySound(t, Tree{Node: x.Node, Blocks: slices.Insert(slices.Clone(x.Blocks), i, api.Block{Key: b.Key})}, false)
			trySound(t, Tree{Node: x.Node, Blocks: slices.Insert(slices.Clone(x.Blocks), i+1, api.Block{Key: b.Key})}, false)
			// In the place of another one.
			for j := range x.Blocks {
				y := Tree{Node: x.Node, Blocks: slices.Clone(x.Blocks)}
				y.Blocks[j] = b
				trySound(t, y, i == j)
				y = Tree{Node: x.Node, Blocks: slices.Clone(x.Blocks)}
				y.Blocks[i], y.Blocks[j] = y.Blocks[j], y.Blocks[i]
				trySound(t, y, i == j)
			}
			if b.Key != x.Node && b.Data[0] != 'i' {
				trySound(t, Tree{Node: b.Key, Blocks: x.Blocks}, false)
				trySound(t, Tree{Node: b.Key, Blocks: []api.Block{b}}, false)
			}
		}
		trySound(t, Tree{Blocks: x.Blocks}, false)
		trySound(t, Tree{Node: x.Node}, false)
		trySound(t, Tree{Node: gone, Blocks: x.Blocks}, false)
	}
	trySound(t, Tree{}, false)
}

// Whatever an inode leads to is a tree by itself, where nothing else is there.
func TestP1006Inside(t *testing.T) {
	x := built(t, several())
	for _, b := range x.Blocks {
		if b.Data[0] != 'i' {
			continue
		}
		k := laid{}
		if !k.follow(x.Blocks, b.Key, 0) {
			t.Fatalf("%x", b.Key)
		}
		trySound(t, k.tree(b.Key), true)
		trySound(t, Tree{Node: b.Key, Blocks: x.Blocks}, b.Key == x.Node)
	}
}

// Of an inner block Sound asks just as many hashes as its place does, though a read may do with more.
func TestP1006HashesOfAPlace(t *testing.T) {
	eight := []int{64, 64, 64, 64, 64, 64, 64, 64}
	for i, x := range []struct {
		size  int
		sizes [][]int // rows below each inner block
		want  bool
	}{
		{70, [][]int{{64, 6}}, true},
		{70, [][]int{{64, 6, 6}}, false},
		{70, [][]int{{64, 6, 64}}, false},
		{70, [][]int{{64}}, false},
		{70, [][]int{{64, 64}}, false},
		{70, [][]int{{6, 64}}, false},
		{128, [][]int{{64, 64}}, true},
		{128, [][]int{{64, 64, 64}}, false},
		{128, [][]int{{64, 64, 0}}, false}, // of a row that would have no bytes, one that has none
		{64 * 7, [][]int{{64, 64, 64, 64, 64, 64, 64, 0}}, false},
		{449, [][]int{{64, 64, 64, 64, 64, 64, 64, 1}}, true},
		{448, [][]int{{64, 64, 64, 64, 64, 64, 64, 1}}, false},
		{448, [][]int{{64, 64, 64, 64, 64, 64, 64}}, true},
		{448, [][]int{{64, 64, 64, 64, 64, 64, 64, 64}}, false},
		{512, [][]int{eight}, true},
		{512, [][]int{eight[:7]}, false},
		{513, [][]int{eight, {1}}, true},
		{513, [][]int{eight, {1, 1}}, false},
		{513, [][]int{eight, {64}}, false},
		{513, [][]int{eight, {1}, {1}}, false},
		{513, [][]int{eight}, false},
		{576, [][]int{eight, {64}}, true},
		{577, [][]int{eight, {64, 1}}, true},
		{577, [][]int{eight[:7], {64, 1}}, false},
		{577, [][]int{{64, 1}, eight}, false},
		{1024, [][]int{eight, eight}, true},
		{1024, [][]int{eight, eight, eight}, false},
		{1024, [][]int{eight, eight, {0}}, false},
		{1024, [][]int{eight, eight[:7]}, false},
		{1025, [][]int{eight, eight, {1}}, true},
		{4096, [][]int{eight, eight, eight, eight, eight, eight, eight, eight}, true},
		{4095, [][]int{eight, eight, eight, eight, eight, eight, eight, eight}, false},
		{4033, [][]int{eight, eight, eight, eight, eight, eight, eight, {64, 64, 64, 64, 64, 64, 64, 1}}, true},
	} {
		for _, kind := range []byte{api.File, api.Dir} {
			k := laid{}
			var l []api.Id
			for _, sizes := range x.sizes {
				l = append(l, k.lay(innerText(rows(k, sizes...)...)))
			}
			top, levels := l[0], 1
			if x.size > 512 {
				top, levels = k.lay(innerText(l...)), 2
			}
			y := k.under("a", k.lay(inodeText(kind, x.size, levels, top)))
			// Bytes like these are no directory's.
			if got := Sound(y); got != (x.want && kind == api.File) || got != saidSound(y) {
				t.Errorf("%d, %d: %v", i, kind, got)
			}
		}
	}
}

// The same block below one file where it is right, and below another where it is not; in either order.
func TestP1006OneBlockTwoPlaces(t *testing.T) {
	lays := []func(k laid) api.Id{
		func(k laid) api.Id { return k.file(api.File, string(row(600, 0))) },
		func(k laid) api.Id { return fileOver(k, 64, 0, k.lay("d"+string(row(64, 0)))) },
		func(k laid) api.Id { return fileOver(k, 63, 0, k.lay("d"+string(row(64, 0)))) },
		func(k laid) api.Id { return fileOver(k, 512, 1, k.below(string(row(512, 0)), 1)) },
		func(k laid) api.Id { return fileOver(k, 511, 1, k.below(string(row(512, 0)), 1)) },
		func(k laid) api.Id { return fileOver(k, 448, 1, k.below(string(row(512, 0)), 1)) },
		func(k laid) api.Id { return fileOver(k, 513, 2, k.below(string(row(512, 0)), 1)) },
		func(k laid) api.Id { return fileOver(k, 64, 0, k.below(string(row(512, 0)), 1)) },
		func(k laid) api.Id { return k.file(api.File, string(row(8, 0))) },
		func(k laid) api.Id {
			return fileOver(k, 520, 2, k.lay(innerText(k.below(string(row(512, 0)), 1), rows(k, 8)[0])))
		},
		func(k laid) api.Id {
			return fileOver(k, 520, 2, k.lay(innerText(k.below(string(row(512, 0)), 1), k.lay(innerText(rows(k, 8)...)))))
		},
		func(k laid) api.Id { return fileOver(k, 8, 0, k.lay(innerText(rows(k, 8)...))) },
		func(k laid) api.Id { return fileOver(k, 39, 0, k.file(api.File, string(row(600, 0)))) },
		func(k laid) api.Id { return fileOver(k, 38, 0, k.file(api.File, "")) },
		func(k laid) api.Id { return k.lay("d" + string(row(64, 0))) },
		func(k laid) api.Id { return k.below(string(row(512, 0)), 1) },
	}
	for _, first := range lays {
		for _, second := range lays {
			k := laid{}
			x := k.tree(k.file(api.Dir, entryText("a", first(k))+entryText("b", second(k))))
			x = reached(x)
			trySound(t, x, saidSound(x))
			k = laid{}
			x = k.tree(k.file(api.Dir, entryText("a", first(k))+entryText("b", k.file(api.Dir, entryText("x", second(k))))))
			x = reached(x)
			trySound(t, x, saidSound(x))
		}
	}
}

// reached is a tree without the blocks that nothing leads to, whatever they should be.
func reached(x Tree) Tree {
	k := laid{}
	work := []api.Id{x.Node}
	for len(work) > 0 {
		id := work[0]
		work = work[1:]
		if k[id] != "" {
			continue
		}
		all, e := saidBlock(x.Blocks, id)
		if e != api.OK {
			continue
		}
		k[id] = all
		if l, e := blob.ParseInner([]byte(all)); e == api.OK {
			work = append(work, l...)
		}
		if n, e := blob.ParseInode([]byte(all)); e == api.OK {
			work = append(work, n.Top)
			l, _ := saidEntries(x.Blocks, n)
			for _, x := range l {
				work = append(work, x.Node)
			}
		}
	}
	return k.tree(x.Node)
}

func TestP1006AnyTree(t *testing.T) {
	r := rand.New(rand.NewSource(1006))
	told := map[bool]int{}
	for range 2500 {
		x := reached(anyTree(r))
		want := saidSound(x)
		told[want]++
		trySound(t, x, want)
	}
	if told[true] < 300 || told[false] < 300 {
		t.Error(told)
	}
}

// chain is directories, each with the next as its only entry, and below them a node.
func chain(k laid, depth int, node api.Id) api.Id {
	for range depth {
		node = k.file(api.Dir, entryText("d", node))
	}
	return node
}

func TestP1006Depths(t *testing.T) {
	for depth := range 9 {
		for kind, lay := range []func(k laid) api.Id{
			func(k laid) api.Id { return k.file(api.File, "x") },
			func(k laid) api.Id { return k.file(api.Dir, "") },
			func(k laid) api.Id { return k.file(api.File, string(row(600, 0))) },
		} {
			k := laid{}
			x := k.tree(chain(k, depth, lay(k)))
			// Six names are too many, also to a directory that has none.
			if got := Sound(x); got != (depth <= 5) {
				t.Errorf("%d deep, %d: %v", depth, kind, got)
			}
			if depth > 0 && depth < 6 {
				tryTree(t, x, strings.Repeat("/d", depth), strings.Repeat("/d", depth)+"/d")
			}
		}
	}
}

// One directory that stands at two depths, of which one is too great.
func TestP1006TwoDepths(t *testing.T) {
	for low := range 7 {
		for high := range 7 {
			k := laid{}
			inside := chain(k, 2, k.file(api.File, "x"))
			x := k.tree(k.file(api.Dir, entryText("a", chain(k, low, inside))+entryText("b", chain(k, high, inside))))
			if got := Sound(x); got != (max(low, high) <= 2) {
				t.Errorf("%d, %d: %v", low, high, got)
			}
			trySound(t, x, saidSound(x))
		}
	}
}

// Ways double at each depth, blocks do not.
func TestP1006Wide(t *testing.T) {
	for _, kind := range []byte{api.File, api.Dir} {
		k := laid{}
		node := k.file(kind, "")
		for deep := 1; deep <= 6; deep++ {
			all := ""
			for c := range 20 {
				all += entryText(string(rune('a'+c)), node)
			}
			node = k.file(api.Dir, all)
			x := k.tree(node)
			trySound(t, x, deep <= 5)
			for i := range x.Blocks {
				trySound(t, without(x, i), false)
			}
			if deep <= 5 {
				if n, e := Find(x, strings.Repeat("/t", deep)); e != api.OK || n.Kind != int(kind) {
					t.Errorf("%d: %v, %v", deep, n, e)
				}
			}
		}
	}
}

// Many great files that share their rows are gone through each part once.
func TestP1006ManyGreatFiles(t *testing.T) {
	k := laid{}
	id := k.lay("d" + string(row(64, 0)))
	for range 4 {
		id = k.lay(innerText(id, id, id, id, id, id, id, id))
	}
	var dirs [20]string
	for i := range 400 {
		own := k.lay("d" + string(row(64, i+1)))
		rest := own
		for range 4 {
			rest = k.lay(innerText(rest))
		}
		node := fileOver(k, 1<<18*3+64, 5, k.lay(innerText(id, id, id, rest)))
		dirs[i/20] += entryText(string(rune('a'+i%20)), node)
	}
	all := ""
	for i, dir := range dirs {
		all += entryText(string(rune('a'+i)), k.file(api.Dir, dir))
	}
	x := k.tree(k.file(api.Dir, all))
	trySound(t, x, true)
	for i := 0; i < len(x.Blocks); i += 97 {
		trySound(t, without(x, i), false)
	}
}

// A lone file, whose inode is the top: no directory is asked of the top.
func TestP1006FileOnTop(t *testing.T) {
	for _, size := range edgeSizes {
		k := laid{}
		x := k.tree(k.file(api.File, string(row(size, 0))))
		trySound(t, x, true)
		if b, e := Read(x, "/", 0, 1000); e != api.OK || !bytes.Equal(b, row(size, 0)) {
			t.Errorf("%d: %v", size, e)
		}
		if _, e := List(x, "/"); e != api.ErrKind {
			t.Errorf("%d: %v", size, e)
		}
		tryTree(t, x, "/", "/a")
		for i := range x.Blocks {
			trySound(t, without(x, i), false)
		}
	}
}
