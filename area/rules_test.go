package area

import (
	"bytes"
	"math"
	"math/rand"
	"slices"
	"sync"
	"testing"

	"lattice/api"
)

const (
	spare   = 40 // bytes behind what is handed in that are not its own
	unused  = 0x5a
	trodden = 0xee
)

// roomy is b with room behind it that is somebody else's.
func roomy(b []byte) []byte {
	room := append(slices.Clone(b), bytes.Repeat([]byte{unused}, spare)...)
	return room[:len(b)]
}

// keptWhole tells whether room still holds b, and behind it what was there.
func keptWhole(room, b []byte) bool {
	all := room[:cap(room)]
	return len(room) == len(b) && bytes.HasPrefix(all, b) && bytes.Count(all[len(b):len(b)+spare], []byte{unused}) == spare
}

// tread writes over a list and its spare room.
func tread(b []byte) {
	b = b[:cap(b)]
	for i := range b {
		b[i] = trodden
	}
}

// wild is numbers that are near to a bound, or far off.
var wild = []int{math.MinInt, math.MinInt + 1, -1 << 40, -1 << 31, -2, -1, 0, 1, 2, 9, 1<<31 - 1, 1 << 31, 1 << 32, 1<<40 - 1, 1 << 40, 1<<40 + 1, math.MaxInt - 1, math.MaxInt}

func TestP1WildNumbers(t *testing.T) {
	for _, x := range [][2]int{{1, 1}, {10, 4}, {1 << 30, 1 << 30}, {1 << 30, 1}, {1, 1 << 30}} {
		for _, source := range wild {
			for _, expires := range wild {
				for _, now := range wild {
					run(t, x[0], x[1], puts(block(1, 1, 0, 9), 0), puts(block(2, 3, source, expires), now), puts(block(2, 7000, source, expires), now),
						puts(block(1, 1, source, expires), now), gets(1, now), gets(2, expires), sweeps(now), drops(2), sweeps(expires))
				}
			}
		}
		a := made(t, x[0], x[1])
		for _, n := range wild {
			if a.Used(n) != 0 {
				t.Errorf("Used(%d): %d", n, a.Used(n))
			}
		}
	}
}

func TestP1LongBlocks(t *testing.T) {
	a := made(t, 1<<30, 1<<30)
	b := api.Block{Key: id(1), Data: make([]byte, 1<<26), Expires: 9}
	if e := a.Put(b, 0); e != api.ErrLong || a.Total() != 0 {
		t.Errorf("%v, %d", e, a.Total())
	}
}

// Many blocks, of which none has any bytes: no quota and no room bounds them.
func TestP1ManyBlocks(t *testing.T) {
	a := made(t, 1, 1)
	const count = 50000
	for i := range count {
		if e := a.Put(block(i, 0, i%3, 5+i%2), i*4/count); e != api.OK {
			t.Fatal(e)
		}
	}
	if l := a.All(); len(l) != count || a.Total() != 0 {
		t.Errorf("%d, %d", len(l), a.Total())
	}
	if n, m := a.Sweep(5), a.Sweep(6); n != count/2 || m != count/2 {
		t.Errorf("%d, %d", n, m)
	}
}

func TestP2PutLeavesTheBlock(t *testing.T) {
	for _, x := range []struct {
		size, source, expires int
	}{{0, 0, 9}, {1, 0, 9}, {10, 0, 9}, {11, 0, 9}, {21, 1, 9}, {6000, 0, 9}, {6001, 0, 9}, {3, -1, 9}, {3, 0, 0}} {
		a := made(t, 20, 10)
		for range 2 { // it is there behind the first one
			b := block(1, x.size, x.source, x.expires)
			room := roomy(b.Data)
			a.Put(api.Block{Key: b.Key, Data: room, Source: b.Source, Expires: b.Expires}, 0)
			if !keptWhole(room, b.Data) {
				t.Errorf("%+v: %x", x, room[:cap(room)])
			}
		}
	}
}

// What was handed in is written over behind the call.
func TestP2PutKeepsNothing(t *testing.T) {
	for _, size := range []int{0, 1, 2, 31, 32, 33, 64, 1000, 6000} {
		a := made(t, 1<<20, 1<<20)
		b := block(1, size, 0, 9)
		room := roomy(b.Data)
		a.Put(api.Block{Key: b.Key, Data: room, Expires: 9}, 0)
		tread(room)
		other := roomy(bytes.Repeat([]byte{1}, size))
		a.Put(api.Block{Key: b.Key, Data: other, Expires: 9}, 0)
		tread(other)
		got, is := a.Get(b.Key, 0)
		if l := a.All(); !is || !bytes.Equal(got, b.Data) || len(l) != 1 || !sameBlock(l[0], b) {
			t.Errorf("%d: %x", size, got)
		}
	}
	// Two blocks of the same bytes.
	a := made(t, 100, 100)
	room := roomy([]byte("abc"))
	a.Put(api.Block{Key: id(1), Data: room, Expires: 9}, 0)
	a.Put(api.Block{Key: id(2), Data: room, Expires: 9}, 0)
	one, _ := a.Get(id(1), 0)
	tread(one)
	tread(room)
	if two, _ := a.Get(id(2), 0); string(two) != "abc" {
		t.Errorf("%x", two)
	}
}

// some is an area of a few blocks.
func some(t testing.TB) *Area {
	t.Helper()
	a := made(t, 1000, 1000)
	for i, size := range []int{3, 0, 17, 64, 1, 32} {
		if e := a.Put(block(i, size, i%2, 5+i), 0); e != api.OK {
			t.Fatal(e)
		}
	}
	return a
}

func TestP2GetIsNew(t *testing.T) {
	a, want := some(t), seen(some(t))
	for i := range 6 {
		one, _ := a.Get(id(i), 0)
		two, _ := a.Get(id(i), 0)
		before := slices.Clone(two)
		tread(one)
		if !bytes.Equal(two, before) || seen(a) != want {
			t.Errorf("%d: %x, %s", i, two, seen(a))
		}
	}
	// Nor does an answer change where the block goes.
	one, _ := a.Get(id(2), 0)
	before := slices.Clone(one)
	a.Sweep(100)
	a.Put(block(2, 9, 1, 200), 100)
	if !bytes.Equal(one, before) {
		t.Errorf("%x", one)
	}
}

func TestP2AllIsNew(t *testing.T) {
	a, want := some(t), seen(some(t))
	whole := a.All()
	for i := range whole {
		l, again := a.All(), a.All()
		tread(l[i].Data)
		for j := range l {
			if i != j && !sameBlock(l[j], whole[j]) {
				t.Errorf("%d lies in %d", j, i)
			}
		}
		clear(l[:cap(l)])
		if !slices.EqualFunc(again, whole, sameBlock) || seen(a) != want {
			t.Errorf("%d: %s", i, seen(a))
		}
	}
	l := a.All()
	a.Drop(l[0].Key)
	a.Sweep(7)
	a.Put(block(5, 0, 0, 99), 0)
	if !slices.EqualFunc(l, whole, sameBlock) {
		t.Error("a list changes with the area")
	}
}

func TestP2NoneAndEmptyAreTheSame(t *testing.T) {
	for _, none := range [][]byte{nil, {}, make([]byte, 0, 9)} {
		a := made(t, 1, 1)
		b := api.Block{Key: id(1), Data: none, Source: 3, Expires: 9}
		if e := a.Put(b, 0); e != api.OK || seen(a) != seen(&said{there: []kept{{string(b.Key[:]), "", 3, 9}}}) {
			t.Errorf("%v, %s", e, seen(a))
		}
		if got, is := a.Get(b.Key, 8); !is || len(got) != 0 {
			t.Errorf("%x, %v", got, is)
		}
	}
}

// Areas of the same calls answer the same, whoever asks at the same time.
func TestP3SameCallsSameAnswers(t *testing.T) {
	told := func() string {
		r := rand.New(rand.NewSource(3))
		a, all := made(t, 100, 60), ""
		for now := range 300 {
			all += somePut(r, now).do(a) + drops(r.Intn(40)).do(a) + seen(a)
		}
		return all
	}
	want := told()
	var group sync.WaitGroup
	for range 8 {
		group.Go(func() {
			if told() != want {
				t.Error("another answer")
			}
		})
	}
	group.Wait()
}

// Beside a false there are no bytes.
func TestP4GetOfNone(t *testing.T) {
	a := some(t)
	for _, x := range []struct {
		key, now int
	}{{0, 5}, {0, 6}, {2, 7}, {5, 1 << 40}, {6, 0}, {77, 0}} {
		if b, is := a.Get(id(x.key), x.now); is || b != nil {
			t.Errorf("%v: %x, %v", x, b, is)
		}
	}
}

// What was refused can't be told later: ErrArg and ErrLong changed nothing, the others have swept.
func TestP5Refused(t *testing.T) {
	refusals := []call{
		puts(block(0, 1, -1, 99), 7), puts(block(8, 1, -1, 99), 7), puts(block(8, 1, 0, 7), 7), puts(block(0, 1, 0, 7), 7), puts(block(8, 6001, 0, 99), 7), puts(block(0, 6001, 0, 99), 7),
	}
	later := []call{sweeps(4), gets(0, 4), puts(block(8, 6, 5, 99), 4), puts(block(0, 9, 5, 6), 4), sweeps(5), sweeps(6), puts(block(7, 1, 5, 50), 6), drops(8), sweeps(99)}
	fill := func() *Area {
		a := made(t, 20, 9)
		for i := range 6 {
			a.Put(block(i, i, i%2, 5+i), 0)
		}
		return a
	}
	tell := func(ahead ...call) string {
		a, all := fill(), ""
		for _, c := range ahead {
			c.do(a)
		}
		for _, c := range later {
			all += seen(a) + c.do(a)
		}
		return all
	}
	want := tell()
	for _, c := range refusals {
		if got := c.do(fill()); got != "arg" && got != "long" {
			t.Errorf("%v: %s", c, got)
		}
		if tell(c) != want || tell(c, c) != want {
			t.Errorf("%v: %s\nnot %s", c, tell(c), want)
		}
	}
	for _, c := range []call{puts(block(8, 10, 0, 99), 7), puts(block(8, 6000, 7, 99), 6)} {
		if got := c.do(fill()); got != "quota" || tell(c) != tell(sweeps(c.now)) {
			t.Errorf("%v: %s, %s\nnot %s", c, got, tell(c), tell(sweeps(c.now)))
		}
	}
	if c := puts(block(8, 9, 7, 99), 5); c.do(fill()) != "full" || tell(c) != tell(sweeps(5)) {
		t.Errorf("%v: %s\nnot %s", c, tell(c), tell(sweeps(5)))
	}
}

// Of two areas neither knows of the other.
func TestP7TwoAreas(t *testing.T) {
	a, b := some(t), made(t, 3, 2)
	want := seen(a)
	b.Put(block(1, 2, 0, 9), 0)
	b.Put(block(9, 1, 1, 9), 0)
	if seen(a) != want || b.Total() != 3 || there(b) != "1 2 0 9, 9 1 1 9" {
		t.Errorf("%s, %s", seen(a), seen(b))
	}
	a.Drop(id(1))
	a.Sweep(100)
	if there(b) != "1 2 0 9, 9 1 1 9" || b.Used(0) != 2 {
		t.Errorf("%s", seen(b))
	}
}
