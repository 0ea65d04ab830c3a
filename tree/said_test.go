package tree

import (
	"bytes"
	"crypto/sha256"
	"encoding/binary"
	"fmt"
	"maps"
	"slices"
	"sort"
	"strconv"
	"strings"
	"testing"

	"lattice/api"
	"lattice/blob"
	"lattice/names"
)

// What chapter 10 promises, said anew: blocks as texts, laid from the top down, and read each by the digits of its place.

// laid is blocks as texts, by their hashes.
type laid map[api.Id]string

func (k laid) lay(text string) api.Id {
	id := api.Id(sha256.Sum256([]byte(text)))
	k[id] = text
	return id
}

func text(b ...byte) string { return string(b) }

// greatest is the greatest size of each number of levels.
var greatest = []int{64, 512, 4096, 32768, 262144, 2097152}

// below lays the blocks of a file's part: the top one's hash.
func (k laid) below(part string, levels int) api.Id {
	if levels == 0 {
		return k.lay("d" + part)
	}
	hashes, count := "", 0
	for ; part != ""; count++ {
		end := min(len(part), greatest[levels-1])
		id := k.below(part[:end], levels-1)
		hashes, part = hashes+text(id[:]...), part[end:]
	}
	return k.lay("n" + text(byte(count)) + hashes)
}

// file lays a file: its inode block's hash.
func (k laid) file(kind byte, all string) api.Id {
	levels, top := sort.SearchInts(greatest, len(all)), api.Id{}
	if all != "" {
		top = k.below(all, levels)
	}
	return k.lay(inodeText(kind, len(all), levels, top))
}

func inodeText(kind byte, size, levels int, top api.Id) string {
	size4 := binary.BigEndian.AppendUint32(nil, uint32(size))
	return "i" + text(kind) + string(size4) + text(byte(levels)) + text(top[:]...)
}

func innerText(l ...api.Id) string {
	all := "n" + text(byte(len(l)))
	for _, id := range l {
		all += text(id[:]...)
	}
	return all
}

func entryText(name string, node api.Id) string {
	return text(byte(len(name))) + name + text(node[:]...)
}

// dir lays all that is below a path, of which files has each file's bytes: its inode block's hash.
func (k laid) dir(files map[string]string, at string) api.Id {
	under := map[string]int{}
	for path := range files {
		if rest, ok := strings.CutPrefix(path, at+"/"); ok {
			name, _, _ := strings.Cut(rest, "/")
			under[name]++
		}
	}
	all := ""
	for _, name := range slices.Sorted(maps.Keys(under)) {
		if data, ok := files[at+"/"+name]; ok {
			all += entryText(name, k.file(api.File, data))
		} else {
			all += entryText(name, k.dir(files, at+"/"+name))
		}
	}
	return k.file(api.Dir, all)
}

// tree is what was laid, with that top.
func (k laid) tree(node api.Id) Tree {
	t := Tree{Node: node}
	for id, all := range k {
		t.Blocks = append(t.Blocks, api.Block{Key: id, Data: []byte(all)})
	}
	sort.Slice(t.Blocks, func(i, j int) bool { return string(t.Blocks[i].Key[:]) < string(t.Blocks[j].Key[:]) })
	return t
}

func saidBuild(l []api.Item) (Tree, api.Errno) {
	if len(l) > 20 {
		return Tree{}, api.ErrMany
	}
	files := map[string]string{}
	for _, x := range l {
		if _, e := names.Split(x.Path); e != api.OK {
			return Tree{}, e
		}
		if x.Path == "/" {
			return Tree{}, api.ErrName
		}
		if len(x.Data) > 1000 {
			return Tree{}, api.ErrLong
		}
		files[x.Path] = string(x.Data)
	}
	for i, x := range l {
		for j, y := range l {
			if i != j && strings.HasPrefix(x.Path+"/", y.Path+"/") {
				return Tree{}, api.ErrIs
			}
		}
	}
	k := laid{}
	return k.tree(k.dir(files, "")), api.OK
}

func saidFresh(t, old Tree) []api.Block {
	return slices.DeleteFunc(slices.Clone(t.Blocks), func(b api.Block) bool {
		return slices.ContainsFunc(old.Blocks, func(o api.Block) bool { return o.Key == b.Key })
	})
}

func saidBlock(l []api.Block, id api.Id) (string, api.Errno) {
	for _, b := range l {
		if b.Key == id && sha256.Sum256(b.Data) == id {
			return string(b.Data), api.OK
		}
	}
	return "", api.ErrGone
}

func saidInode(l []api.Block, id api.Id) (api.Inode, api.Errno) {
	all, e := saidBlock(l, id)
	if e != api.OK {
		return api.Inode{}, e
	}
	return blob.ParseInode([]byte(all))
}

// saidRow is the k-th data block's bytes.
func saidRow(l []api.Block, n api.Inode, k int) (string, api.Errno) {
	id, digits := n.Top, ""
	if n.Levels > 0 {
		digits = fmt.Sprintf("%0*s", n.Levels, strconv.FormatInt(int64(k), 8))
	}
	for _, digit := range digits {
		all, e := saidBlock(l, id)
		if e != api.OK {
			return "", e
		}
		hashes, e := blob.ParseInner([]byte(all))
		if e != api.OK || int(digit-'0') >= len(hashes) {
			return "", api.ErrBad
		}
		id = hashes[digit-'0']
	}
	all, e := saidBlock(l, id)
	if e != api.OK {
		return "", e
	}
	row, ok := strings.CutPrefix(all, "d")
	if !ok || len(row) != min(64, n.Size-64*k) {
		return "", api.ErrBad
	}
	return row, api.OK
}

func saidBytes(l []api.Block, n api.Inode, from, to int) (string, api.Errno) {
	all := ""
	for k := range (n.Size + 63) / 64 {
		start := 64 * k
		end := min(start+64, n.Size)
		first, behind := max(from, start), min(to, end)
		if first >= behind {
			continue
		}
		row, e := saidRow(l, n, k)
		if e != api.OK {
			return "", e
		}
		all += row[first-start : behind-start]
	}
	return all, api.OK
}

func saidEntries(l []api.Block, n api.Inode) ([]api.Entry, api.Errno) {
	if n.Kind != api.Dir {
		return nil, api.ErrKind
	}
	all, e := saidBytes(l, n, 0, n.Size)
	if e != api.OK {
		return nil, e
	}
	return blob.ParseDir([]byte(all))
}

func saidFind(t Tree, path string) (api.Inode, api.Errno) {
	way, e := names.Split(path)
	if e != api.OK {
		return api.Inode{}, e
	}
	n, e := saidInode(t.Blocks, t.Node)
	for _, name := range way {
		if e != api.OK {
			return api.Inode{}, e
		}
		entries, wrong := saidEntries(t.Blocks, n)
		if wrong != api.OK {
			return api.Inode{}, wrong
		}
		at := slices.IndexFunc(entries, func(x api.Entry) bool { return x.Name == name })
		if at < 0 {
			return api.Inode{}, api.ErrNone
		}
		n, e = saidInode(t.Blocks, entries[at].Node)
	}
	return n, e
}

func saidList(t Tree, path string) ([]string, api.Errno) {
	n, e := saidFind(t, path)
	if e != api.OK {
		return nil, e
	}
	entries, e := saidEntries(t.Blocks, n)
	var l []string
	for _, x := range entries {
		l = append(l, x.Name)
	}
	return l, e
}

func saidRead(t Tree, path string, off, n int) (string, api.Errno) {
	inode, e := saidFind(t, path)
	switch {
	case e != api.OK:
		return "", e
	case inode.Kind != api.File:
		return "", api.ErrKind
	case off < 0, n < 0:
		return "", api.ErrArg
	case off >= inode.Size:
		return "", api.OK
	}
	return saidBytes(t.Blocks, inode, off, off+min(n, inode.Size-off))
}

// follow lays anew all that an inode leads to, and tells whether it all was there, and the same.
func (k laid) follow(l []api.Block, id api.Id, depth int) bool {
	n, e := saidInode(l, id)
	if e != api.OK || depth > 5 {
		return false
	}
	all, e := saidBytes(l, n, 0, n.Size)
	if e != api.OK || k.file(byte(n.Kind), all) != id {
		return false
	}
	if n.Kind == api.File {
		return true
	}
	entries, e := blob.ParseDir([]byte(all))
	for _, x := range entries {
		if !k.follow(l, x.Node, depth+1) {
			return false
		}
	}
	return e == api.OK
}

func saidSound(t Tree) bool {
	k := laid{}
	return k.follow(t.Blocks, t.Node, 0) && same(k.tree(t.Node), t)
}

// same tells whether two trees have the same blocks in the same order.
func same(a, b Tree) bool {
	return a.Node == b.Node && slices.EqualFunc(a.Blocks, b.Blocks, sameBlock)
}

func sameBlock(a, b api.Block) bool {
	return a.Key == b.Key && bytes.Equal(a.Data, b.Data) && a.Source == b.Source && a.Expires == b.Expires
}

// shown is the front of something, that a fault be told in a line.
func shown(x any) string {
	all := fmt.Sprintf("%x", x)
	return all[:min(len(all), 300)]
}

// Each try asks a call, and holds it against what was said anew.

func tryBuild(t testing.TB, l []api.Item) Tree {
	t.Helper()
	want, errno := saidBuild(l)
	got, e := Build(l)
	if e != errno || !same(got, want) {
		t.Fatalf("Build %s: %x, %d blocks, %v, not %x, %d, %v", shown(l), got.Node, len(got.Blocks), e, want.Node, len(want.Blocks), errno)
	}
	return got
}

func tryFresh(t testing.TB, x, old Tree) {
	t.Helper()
	if got, want := Fresh(x, old), saidFresh(x, old); !slices.EqualFunc(got, want, sameBlock) {
		t.Fatalf("Fresh: %d blocks, not %d", len(got), len(want))
	}
}

// tryPath is what Find, List and a Read of all tell.
func tryPath(t testing.TB, x Tree, path string) {
	t.Helper()
	n, e := Find(x, path)
	if want, errno := saidFind(x, path); n != want || e != errno {
		t.Fatalf("Find %q: %+v, %v, not %+v, %v", path, n, e, want, errno)
	}
	l, e := List(x, path)
	if want, errno := saidList(x, path); !slices.Equal(l, want) || e != errno {
		t.Fatalf("List %q: %q, %v, not %q, %v", path, l, e, want, errno)
	}
	tryRead(t, x, path, 0, 1<<21)
}

func tryRead(t testing.TB, x Tree, path string, off, n int) {
	t.Helper()
	b, e := Read(x, path, off, n)
	if want, errno := saidRead(x, path, off, n); string(b) != want || e != errno {
		t.Fatalf("Read %q, %d, %d: %s, %v, not %s, %v", path, off, n, shown(b), e, shown(want), errno)
	}
}

func trySound(t testing.TB, x Tree, want bool) {
	t.Helper()
	if got := Sound(x); got != want {
		t.Fatalf("Sound: %v of %d blocks", got, len(x.Blocks))
	}
}

// tryTree asks all of a tree that stands on its own, where no ways double.
func tryTree(t testing.TB, x Tree, paths ...string) {
	t.Helper()
	for _, path := range paths {
		tryPath(t, x, path)
		for _, off := range []int{63, 64, 513} {
			tryRead(t, x, path, off, 2)
		}
	}
	trySound(t, x, saidSound(x))
}
