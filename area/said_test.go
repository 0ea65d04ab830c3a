package area

import (
	"fmt"
	"slices"
	"strings"
	"testing"

	"lattice/api"
)

// face is what is asked of an area, and of what is said anew of one.
type face interface {
	Put(b api.Block, now int) api.Errno
	Get(key api.Id, now int) ([]byte, bool)
	Drop(key api.Id) bool
	Sweep(now int) int
	All() []api.Block
	Used(source int) int
	Total() int
}

// said is P1101 and P1102, said anew: blocks in a row as they came, gone through at each call.
type said struct {
	room, quota int
	there       []kept
}

// kept is a block as texts.
type kept struct {
	key, data       string
	source, expires int
}

func (s *said) at(key api.Id) int {
	return slices.IndexFunc(s.there, func(k kept) bool { return k.key == string(key[:]) })
}

func (s *said) Put(b api.Block, now int) api.Errno {
	switch {
	case b.Source < 0, b.Expires <= now, now < 0, b.Expires > 1<<40:
		return api.ErrArg
	case len(b.Data) > 6000:
		return api.ErrLong
	}
	s.Sweep(now)
	if i := s.at(b.Key); i >= 0 {
		s.there[i].expires = slices.Max([]int{b.Expires, s.there[i].expires})
		return api.OK
	}
	with := said{there: append(slices.Clone(s.there), kept{string(b.Key[:]), string(b.Data), b.Source, b.Expires})}
	switch {
	case with.Used(b.Source) > s.quota:
		return api.ErrQuota
	case with.Total() > s.room:
		return api.ErrFull
	}
	s.there = with.there
	return api.OK
}

func (s *said) Get(key api.Id, now int) ([]byte, bool) {
	if i := s.at(key); i >= 0 && now < s.there[i].expires {
		return []byte(s.there[i].data), true
	}
	return nil, false
}

func (s *said) without(gone func(k kept) bool) int {
	count := len(s.there)
	s.there = slices.DeleteFunc(slices.Clone(s.there), gone)
	return count - len(s.there)
}

func (s *said) Drop(key api.Id) bool {
	return s.without(func(k kept) bool { return k.key == string(key[:]) }) > 0
}

func (s *said) Sweep(now int) int {
	return s.without(func(k kept) bool { return k.expires <= now })
}

func (s *said) All() []api.Block {
	var l []api.Block
	for _, k := range s.there {
		l = append(l, api.Block{Key: api.Id([]byte(k.key)), Data: []byte(k.data), Source: k.source, Expires: k.expires})
	}
	slices.SortFunc(l, func(a, b api.Block) int { return strings.Compare(string(a.Key[:]), string(b.Key[:])) })
	return l
}

func (s *said) Used(source int) int {
	text := ""
	for _, k := range s.there {
		if k.source == source {
			text += k.data
		}
	}
	return len(text)
}

func (s *said) Total() int {
	text := ""
	for _, k := range s.there {
		text += k.data
	}
	return len(text)
}

// seen is all that a face tells of what is there; of no list and of an empty one it tells the same.
func seen(f face) string {
	var b strings.Builder
	sources := []int{-1, 0, 1, 2, 3, 4}
	for _, x := range f.All() {
		data, is := f.Get(x.Key, x.Expires-1)
		_, over := f.Get(x.Key, x.Expires)
		fmt.Fprintf(&b, "%x: %x of %d till %d, %x %v %v\n", trim(x.Key), x.Data, x.Source, x.Expires, data, is, over)
		sources = append(sources, x.Source)
	}
	for _, source := range sources {
		fmt.Fprintf(&b, "%d has %d, ", source, f.Used(source))
	}
	fmt.Fprintf(&b, "all %d", f.Total())
	return b.String()
}

// trim is a key's last bytes, where the others are noughts.
func trim(key api.Id) []byte { return []byte(strings.TrimLeft(string(key[:]), "\x00")) }

// call is one of a face's that may change something.
type call struct {
	kind  rune
	block api.Block
	now   int
}

func puts(b api.Block, now int) call { return call{kind: 'p', block: b, now: now} }
func drops(key int) call             { return call{kind: 'd', block: api.Block{Key: id(key)}} }
func sweeps(now int) call            { return call{kind: 's', now: now} }
func gets(key, now int) call         { return call{kind: 'g', block: api.Block{Key: id(key)}, now: now} }

func (c call) String() string {
	switch c.kind {
	case 'p':
		return fmt.Sprintf("Put(%x: %d bytes of %d till %d, %d)", trim(c.block.Key), len(c.block.Data), c.block.Source, c.block.Expires, c.now)
	case 'd':
		return fmt.Sprintf("Drop(%x)", trim(c.block.Key))
	case 's':
		return fmt.Sprintf("Sweep(%d)", c.now)
	}
	return fmt.Sprintf("Get(%x, %d)", trim(c.block.Key), c.now)
}

// do makes a call, and tells what it answers.
func (c call) do(f face) string {
	switch c.kind {
	case 'p':
		return f.Put(c.block, c.now).Error()
	case 'd':
		return fmt.Sprint(f.Drop(c.block.Key))
	case 's':
		return fmt.Sprint(f.Sweep(c.now))
	}
	b, is := f.Get(c.block.Key, c.now)
	return fmt.Sprintf("%x %v", b, is)
}

// id is the key of a number.
func id(key int) api.Id { return api.Id{30: byte(key >> 8), 31: byte(key)} }

// block is one of so many bytes, which its key tells.
func block(key, size, source, expires int) api.Block {
	b := make([]byte, size)
	for i := range b {
		b[i] = byte(key + i)
	}
	return api.Block{Key: id(key), Data: b, Source: source, Expires: expires}
}

func made(t testing.TB, room, quota int) *Area {
	t.Helper()
	a, e := New(room, quota)
	if e != api.OK || a == nil {
		t.Fatalf("New(%d, %d): %v", room, quota, e)
	}
	return a
}

// run makes calls on a new area and on what is said anew of one, and holds them against each other behind each call.
func run(t testing.TB, room, quota int, calls ...call) {
	t.Helper()
	a, s := made(t, room, quota), &said{room: room, quota: quota}
	for i, c := range calls {
		got, want := c.do(a), c.do(s)
		if got != want || seen(a) != seen(s) {
			t.Fatalf("room %d, quota %d, %v: %s, %s, not %s, %s", room, quota, calls[:i+1], got, seen(a), want, seen(s))
		}
		bounded(t, a, room, quota)
	}
}

// bounded is P1103, by what All tells.
func bounded(t testing.TB, a *Area, room, quota int) {
	t.Helper()
	total, used := 0, map[int]int{}
	for _, b := range a.All() {
		total += len(b.Data)
		used[b.Source] += len(b.Data)
	}
	for source, n := range used {
		if n > quota || a.Used(source) != n {
			t.Fatalf("source %d has %d of %d, Used %d", source, n, quota, a.Used(source))
		}
	}
	if total > room || a.Total() != total {
		t.Fatalf("%d of %d, Total %d", total, room, a.Total())
	}
}

// row is a line of a test that is written out: a call, what it answers, and what is there behind it.
type row struct {
	call
	answer string
	there  string // each block's key, size, source and time; the blocks apart by commas
}

func test(t *testing.T, room, quota int, rows ...row) {
	t.Helper()
	a := made(t, room, quota)
	for i, r := range rows {
		if got := r.do(a); got != r.answer || there(a) != r.there {
			t.Fatalf("row %d, %v: %s, %q, not %s, %q", i, r.call, got, there(a), r.answer, r.there)
		}
		bounded(t, a, room, quota)
	}
}

func there(f face) string {
	var l []string
	for _, b := range f.All() {
		l = append(l, fmt.Sprintf("%d %d %d %d", int(b.Key[30])<<8+int(b.Key[31]), len(b.Data), b.Source, b.Expires))
	}
	return strings.Join(l, ", ")
}
