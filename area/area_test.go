package area

import (
	"bytes"
	"fmt"
	"math"
	"math/rand"
	"slices"
	"testing"

	"lattice/api"
)

func TestP1101Example(t *testing.T) {
	test(t, 10, 4, row{puts(block(1, 5, 0, 9), 0), "quota", ""})
}

func TestP1101New(t *testing.T) {
	in := []int{1, 2, 6000, 1 << 20, 1<<30 - 1, 1 << 30}
	out := []int{0, -1, -2, 1<<30 + 1, 1<<30 + 2, 1 << 31, 1<<32 + 1, 1 << 40, 1<<62 + 1, -1 << 30, -1 << 31, -1<<32 + 1, math.MaxInt, math.MinInt, math.MinInt + 1}
	for _, x := range in {
		for _, y := range in {
			if a := made(t, x, y); a.Total() != 0 || a.Used(0) != 0 || len(a.All()) != 0 {
				t.Errorf("New(%d, %d): %s", x, y, seen(a))
			}
		}
		for _, y := range out {
			refused(t, x, y)
			refused(t, y, x)
		}
	}
	for _, x := range out {
		for _, y := range out {
			refused(t, x, y)
		}
	}
}

func refused(t *testing.T, room, quota int) {
	t.Helper()
	if a, e := New(room, quota); e != api.ErrArg || a != nil {
		t.Errorf("New(%d, %d): %v, %v", room, quota, a, e)
	}
}

func TestP1101Arg(t *testing.T) {
	test(t, 20, 10,
		row{puts(block(1, 3, -1, 9), 0), "arg", ""},
		row{puts(block(1, 3, math.MinInt, 9), 0), "arg", ""},
		row{puts(block(1, 3, 0, 4), 5), "arg", ""},
		row{puts(block(1, 3, 0, 5), 5), "arg", ""},
		row{puts(block(1, 0, 0, 5), 5), "arg", ""},
		row{puts(block(1, 3, 0, 0), 0), "arg", ""},
		row{puts(block(1, 3, 0, math.MinInt), 0), "arg", ""},
		row{puts(block(1, 3, 0, 6), 5), "ok", "1 3 0 6"},
		row{puts(block(2, 3, math.MaxInt, 6), 5), "ok", "1 3 0 6, 2 3 9223372036854775807 6"},
		row{puts(block(3, 3, 1, 1), 0), "ok", "1 3 0 6, 2 3 9223372036854775807 6, 3 3 1 1"},
		// Of a key that is there likewise.
		row{puts(block(1, 3, -1, 9), 0), "arg", "1 3 0 6, 2 3 9223372036854775807 6, 3 3 1 1"},
		row{puts(block(1, 3, 0, 9), 9), "arg", "1 3 0 6, 2 3 9223372036854775807 6, 3 3 1 1"})
}

// P9: times are 0 to 2^40.
func TestP1101Times(t *testing.T) {
	const most = 1 << 40
	test(t, 20, 10,
		row{puts(block(1, 3, 0, most), 0), "ok", "1 3 0 1099511627776"},
		row{puts(block(2, 3, 0, most), most-1), "ok", "1 3 0 1099511627776, 2 3 0 1099511627776"},
		row{puts(block(3, 3, 0, most), most), "arg", "1 3 0 1099511627776, 2 3 0 1099511627776"},
		row{puts(block(3, 3, 0, most+1), 0), "arg", "1 3 0 1099511627776, 2 3 0 1099511627776"},
		row{puts(block(1, 3, 0, most+1), most), "arg", "1 3 0 1099511627776, 2 3 0 1099511627776"},
		row{puts(block(1, 3, 0, math.MaxInt), 0), "arg", "1 3 0 1099511627776, 2 3 0 1099511627776"},
		row{puts(block(3, 3, 0, 1), -1), "arg", "1 3 0 1099511627776, 2 3 0 1099511627776"},
		row{puts(block(3, 3, 0, 0), -1), "arg", "1 3 0 1099511627776, 2 3 0 1099511627776"},
		row{puts(block(3, 3, 0, 1), math.MinInt), "arg", "1 3 0 1099511627776, 2 3 0 1099511627776"},
		row{gets(1, 0), "010203 true", "1 3 0 1099511627776, 2 3 0 1099511627776"},
		row{gets(1, most-1), "010203 true", "1 3 0 1099511627776, 2 3 0 1099511627776"},
		row{gets(1, most), " false", "1 3 0 1099511627776, 2 3 0 1099511627776"},
		row{sweeps(0), "0", "1 3 0 1099511627776, 2 3 0 1099511627776"},
		row{sweeps(most - 1), "0", "1 3 0 1099511627776, 2 3 0 1099511627776"},
		row{sweeps(most), "2", ""},
		row{puts(block(1, 3, 0, 1), 0), "ok", "1 3 0 1"},
		row{sweeps(most), "1", ""})
}

func TestP1101Lengths(t *testing.T) {
	for _, size := range []int{0, 1, 2, 64, 5999, 6000} {
		a := made(t, 6000, 6000)
		b := block(7, size, 3, 9)
		if e := a.Put(b, 0); e != api.OK || a.Used(3) != size || a.Total() != size {
			t.Errorf("%d: %v, %d", size, e, a.Total())
		}
		if got, is := a.Get(b.Key, 0); !is || !bytes.Equal(got, b.Data) {
			t.Errorf("%d: %d, %v", size, len(got), is)
		}
	}
	for _, size := range []int{6001, 6002, 12000, 1 << 16, 1 << 20} {
		a := made(t, 1<<30, 1<<30)
		if e := a.Put(block(7, size, 3, 9), 0); e != api.ErrLong || len(a.All()) != 0 || a.Total() != 0 {
			t.Errorf("%d: %v, %d", size, e, a.Total())
		}
	}
}

// Of each two errors that apply the first is answered.
func TestP1101Order(t *testing.T) {
	const long, there = 6001, "1 4 0 9, 2 6 1 9"
	for _, x := range []struct {
		quota int
		b     api.Block
		now   int
		want  string
	}{
		{7, block(3, long, -1, 9), 0, "arg"}, {7, block(3, long, 0, 8), 8, "arg"}, {7, block(3, long, -1, 8), 8, "arg"}, {7, block(1, long, -1, 9), 8, "arg"}, {7, block(1, long, 0, 8), 8, "arg"},
		{7, block(3, 11, -1, 9), 8, "arg"}, {7, block(3, 11, 0, 8), 8, "arg"}, {7, block(1, 4, -1, 9), 8, "arg"}, {7, block(1, 4, 0, 8), 8, "arg"},
		{7, block(3, long, 0, 9), 8, "long"}, {7, block(1, long, 0, 9), 8, "long"}, {7, block(1, 9999, 0, 10), 8, "long"},
		{7, block(3, 6000, 0, 9), 8, "quota"}, {7, block(3, 11, 0, 9), 8, "quota"}, {7, block(3, 4, 0, 9), 8, "quota"}, {7, block(3, 8, 2, 9), 8, "quota"}, // no room either
		{7, block(3, 7, 2, 9), 8, "full"}, {7, block(3, 3, 0, 9), 8, "full"}, {7, block(3, 1, 2, 9), 8, "full"}, {7, block(3, 1, 1, 9), 8, "full"},
		{6, block(3, 1, 1, 9), 8, "quota"}, {6, block(3, 1, 0, 9), 8, "full"}, {6, block(3, 2, 0, 9), 8, "full"}, {6, block(3, 3, 0, 9), 8, "quota"},
		{6, block(1, 6000, 1, 9), 8, "ok"}, {6, block(3, 0, 1, 9), 8, "ok"},
	} {
		behind := there
		if x.want == "ok" && x.b.Key != id(1) {
			behind += ", 3 0 1 9"
		}
		test(t, 10, x.quota, row{puts(block(1, 4, 0, 9), 0), "ok", "1 4 0 9"}, row{puts(block(2, 6, 1, 9), 0), "ok", there}, row{puts(x.b, x.now), x.want, behind})
	}
}

func TestP1101SweepsAhead(t *testing.T) {
	two := []row{{puts(block(1, 4, 0, 5), 0), "ok", "1 4 0 5"}, {puts(block(2, 4, 1, 6), 0), "ok", "1 4 0 5, 2 4 1 6"}}
	for _, x := range []row{
		// Refused by what is over as well, it has swept all the same.
		{puts(block(3, 9, 2, 99), 4), "quota", "1 4 0 5, 2 4 1 6"},
		{puts(block(3, 9, 2, 99), 5), "quota", "2 4 1 6"},
		{puts(block(3, 9, 2, 99), 6), "quota", ""},
		{puts(block(3, 8, 2, 99), 4), "full", "1 4 0 5, 2 4 1 6"},
		{puts(block(3, 8, 2, 99), 5), "full", "2 4 1 6"},
		{puts(block(3, 5, 1, 99), 5), "quota", "2 4 1 6"},
		// What is over takes neither quota nor room.
		{puts(block(3, 5, 0, 99), 4), "quota", "1 4 0 5, 2 4 1 6"},
		{puts(block(3, 5, 0, 99), 5), "ok", "2 4 1 6, 3 5 0 99"},
		{puts(block(3, 3, 2, 99), 4), "full", "1 4 0 5, 2 4 1 6"},
		{puts(block(3, 3, 2, 99), 5), "ok", "2 4 1 6, 3 3 2 99"},
		{puts(block(3, 8, 0, 99), 6), "ok", "3 8 0 99"},
		// A key that is there sweeps too; one that is over is not there.
		{puts(block(2, 1, 0, 99), 5), "ok", "2 4 1 99"},
		{puts(block(1, 1, 2, 99), 5), "ok", "1 1 2 99, 2 4 1 6"},
		{puts(block(1, 6, 2, 99), 5), "full", "2 4 1 6"},
		{puts(block(1, 9, 2, 99), 5), "quota", "2 4 1 6"},
		{puts(block(1, 9, 2, 99), 4), "ok", "1 4 0 99, 2 4 1 6"},
		// Behind the other errors it has not swept.
		{puts(block(3, 3, -1, 99), 50), "arg", "1 4 0 5, 2 4 1 6"},
		{puts(block(3, 3, 0, 50), 50), "arg", "1 4 0 5, 2 4 1 6"},
		{puts(block(3, 6001, 0, 99), 50), "long", "1 4 0 5, 2 4 1 6"},
		{puts(block(1, 6001, 0, 99), 50), "long", "1 4 0 5, 2 4 1 6"},
	} {
		test(t, 9, 8, append(slices.Clone(two), x)...)
	}
}

func TestP1101KeyIsThere(t *testing.T) {
	test(t, 12, 10,
		row{puts(block(1, 4, 0, 50), 0), "ok", "1 4 0 50"},
		row{puts(block(2, 6, 0, 50), 0), "ok", "1 4 0 50, 2 6 0 50"},
		row{puts(block(1, 4, 0, 50), 0), "ok", "1 4 0 50, 2 6 0 50"},
		row{puts(block(1, 4, 0, 49), 0), "ok", "1 4 0 50, 2 6 0 50"},
		row{puts(block(1, 4, 0, 1), 0), "ok", "1 4 0 50, 2 6 0 50"},
		row{puts(block(1, 4, 0, 51), 0), "ok", "1 4 0 51, 2 6 0 50"},
		row{puts(block(1, 4, 7, 52), 0), "ok", "1 4 0 52, 2 6 0 50"},
		row{puts(block(1, 5, 0, 53), 0), "ok", "1 4 0 53, 2 6 0 50"},
		row{puts(block(1, 6000, 7, 54), 0), "ok", "1 4 0 54, 2 6 0 50"},
		row{puts(block(1, 0, 7, 2), 1), "ok", "1 4 0 54, 2 6 0 50"},
		row{gets(1, 53), "01020304 true", "1 4 0 54, 2 6 0 50"},
		row{gets(1, 54), " false", "1 4 0 54, 2 6 0 50"},
		row{sweeps(50), "1", "1 4 0 54"},
		row{sweeps(53), "0", "1 4 0 54"},
		row{sweeps(54), "1", ""},
		row{puts(block(1, 3, 7, 60), 0), "ok", "1 3 7 60"})
	// Other bytes, as many.
	a := made(t, 10, 10)
	a.Put(block(1, 4, 0, 9), 0)
	other := block(1, 4, 0, 9)
	other.Data = []byte("abcd")
	if e := a.Put(other, 0); e != api.OK || seen(a) != seen(&said{there: []kept{{string(other.Key[:]), "\x01\x02\x03\x04", 0, 9}}}) {
		t.Errorf("%v, %s", e, seen(a))
	}
}

// The hash of a block's bytes is not asked.
func TestP1101AnyKey(t *testing.T) {
	a := made(t, 100, 100)
	for i, key := range []api.Id{{}, {0: 1}, {31: 1}, {0: 0xff, 31: 0xff}} {
		if e := a.Put(api.Block{Key: key, Data: []byte("abc"), Expires: 9}, 0); e != api.OK || a.Total() != 3*i+3 {
			t.Errorf("%x: %v, %d", key, e, a.Total())
		}
	}
}

// Keys that differ in one bit alone are others.
func TestP1101EveryBitOfKeys(t *testing.T) {
	a := made(t, 1000, 1000)
	a.Put(api.Block{Data: []byte("no"), Expires: 9}, 0)
	for i := range 256 {
		b := api.Block{Data: []byte{byte(i)}, Expires: 9}
		b.Key[i/8] = 1 << (i % 8)
		if _, is := a.Get(b.Key, 0); is || a.Drop(b.Key) {
			t.Fatalf("%x is there", b.Key)
		}
		if e := a.Put(b, 0); e != api.OK || a.Total() != i+3 {
			t.Fatalf("%x: %v, %d", b.Key, e, a.Total())
		}
		if got, is := a.Get(b.Key, 0); !is || !bytes.Equal(got, b.Data) {
			t.Fatalf("%x: %x, %v", b.Key, got, is)
		}
	}
}

// Just what fits, and one byte beyond, in each two pieces, of one source and of two.
func TestP1101JustFull(t *testing.T) {
	for room := 1; room <= 8; room++ {
		for quota := 1; quota <= 10; quota++ {
			for first := range 10 {
				for second := range 10 {
					for source := range 2 {
						run(t, room, quota,
							puts(block(1, first, 0, 5), 0), puts(block(2, second, source, 9), 0), puts(block(3, 0, 0, 9), 0), puts(block(4, 1, 0, 9), 0), puts(block(4, 1, 1, 9), 0), puts(block(4, 1, 2, 9), 0),
							puts(block(5, second, source, 9), 5), puts(block(6, first, 2, 9), 5), drops(2), puts(block(2, first, source, 9), 5))
					}
				}
			}
		}
	}
}

func TestP1101Sources(t *testing.T) {
	test(t, 10, 4,
		row{puts(block(1, 4, 0, 9), 0), "ok", "1 4 0 9"},
		row{puts(block(2, 1, 0, 9), 0), "quota", "1 4 0 9"},
		row{puts(block(2, 4, 1, 9), 0), "ok", "1 4 0 9, 2 4 1 9"},
		row{puts(block(3, 4, 1<<40, 9), 0), "full", "1 4 0 9, 2 4 1 9"},
		row{puts(block(3, 2, 1<<40, 9), 0), "ok", "1 4 0 9, 2 4 1 9, 3 2 1099511627776 9"},
		row{puts(block(4, 3, 1<<40, 9), 0), "quota", "1 4 0 9, 2 4 1 9, 3 2 1099511627776 9"},
		row{puts(block(4, 2, 1<<40, 9), 0), "full", "1 4 0 9, 2 4 1 9, 3 2 1099511627776 9"},
		row{puts(block(4, 0, 0, 9), 0), "ok", "1 4 0 9, 2 4 1 9, 3 2 1099511627776 9, 4 0 0 9"},
		row{drops(1), "true", "2 4 1 9, 3 2 1099511627776 9, 4 0 0 9"},
		row{puts(block(1, 4, 1, 9), 0), "quota", "2 4 1 9, 3 2 1099511627776 9, 4 0 0 9"},
		row{puts(block(1, 4, 2, 9), 0), "ok", "1 4 2 9, 2 4 1 9, 3 2 1099511627776 9, 4 0 0 9"},
		row{puts(block(5, 1, 0, 9), 0), "full", "1 4 2 9, 2 4 1 9, 3 2 1099511627776 9, 4 0 0 9"})
}

// A source's bytes count for it alone, and a lone source may fill all.
func TestP1101GreatRoom(t *testing.T) {
	a := made(t, 1<<30, 1<<30)
	for key := range 2000 {
		if e := a.Put(block(key, 6000, 1, 9), 0); e != api.OK || a.Used(1) != 6000*key+6000 || a.Used(0) != 0 {
			t.Fatalf("%d: %v, %d", key, e, a.Used(1))
		}
	}
	if n := a.Sweep(9); n != 2000 || a.Total() != 0 || a.Used(1) != 0 {
		t.Errorf("%d, %d", n, a.Total())
	}
}

func TestP1102Get(t *testing.T) {
	const all = "1 2 0 5, 2 0 0 6"
	test(t, 20, 10,
		row{gets(1, 0), " false", ""},
		row{puts(block(1, 2, 0, 5), 2), "ok", "1 2 0 5"},
		row{puts(block(2, 0, 0, 6), 2), "ok", all},
		row{gets(1, 0), "0102 true", all},
		row{gets(1, 1), "0102 true", all},
		row{gets(1, 4), "0102 true", all},
		row{gets(1, 5), " false", all}, // over, and not swept
		row{gets(1, 6), " false", all},
		row{gets(1, math.MaxInt), " false", all},
		row{gets(1, 4), "0102 true", all},
		row{gets(2, 5), " true", all},
		row{gets(2, 6), " false", all},
		row{gets(0, 4), " false", all},
		row{gets(3, 4), " false", all},
		row{gets(257, 4), " false", all},
		row{sweeps(5), "1", "2 0 0 6"},
		row{gets(1, 0), " false", "2 0 0 6"},
		row{gets(2, 0), " true", "2 0 0 6"},
		row{drops(2), "true", ""},
		row{gets(2, 0), " false", ""})
}

func TestP1102Drop(t *testing.T) {
	test(t, 6, 6,
		row{drops(1), "false", ""},
		row{puts(block(1, 2, 0, 5), 0), "ok", "1 2 0 5"},
		row{puts(block(2, 3, 0, 5), 0), "ok", "1 2 0 5, 2 3 0 5"},
		row{puts(block(3, 0, 1, 5), 0), "ok", "1 2 0 5, 2 3 0 5, 3 0 1 5"},
		row{drops(4), "false", "1 2 0 5, 2 3 0 5, 3 0 1 5"},
		row{drops(1), "true", "2 3 0 5, 3 0 1 5"},
		row{drops(1), "false", "2 3 0 5, 3 0 1 5"},
		row{drops(3), "true", "2 3 0 5"},
		row{drops(3), "false", "2 3 0 5"},
		row{puts(block(1, 3, 4, 7), 0), "ok", "1 3 4 7, 2 3 0 5"},
		row{drops(1), "true", "2 3 0 5"},
		row{gets(2, 5), " false", "2 3 0 5"},
		row{drops(2), "true", ""}, // over, and not swept
		row{drops(2), "false", ""},
		row{puts(block(1, 6, 4, 7), 0), "ok", "1 6 4 7"},
		row{sweeps(7), "1", ""},
		row{drops(1), "false", ""})
}

// At each time, and at each time behind another one.
func TestP1102Sweep(t *testing.T) {
	expires := []int{3, 1, 4, 1, 5, 9, 2, 6}
	fill := func() *Area {
		a := made(t, 100, 100)
		for i, x := range expires {
			if e := a.Put(block(i, i, i%3, x), 0); e != api.OK {
				t.Fatal(e)
			}
		}
		return a
	}
	over := func(now int) int {
		n := 0
		for _, x := range expires {
			if x <= now {
				n++
			}
		}
		return n
	}
	for first := range 12 {
		for second := range 12 {
			a := fill()
			n, m, last := a.Sweep(first), a.Sweep(second), a.Sweep(second)
			if n != over(first) || m != max(0, over(second)-n) || last != 0 {
				t.Errorf("at %d, %d: %d, %d, %d", first, second, n, m, last)
			}
			total := 0
			for i, x := range expires {
				b, is := a.Get(id(i), 0)
				if is != (x > max(first, second)) || len(b) != 0 && len(b) != i {
					t.Errorf("at %d, %d: %d: %x, %v", first, second, i, b, is)
				}
				total += len(b)
			}
			if a.Total() != total || len(a.All()) != len(expires)-n-m {
				t.Errorf("at %d, %d: %d, not %d", first, second, a.Total(), total)
			}
		}
	}
	a := made(t, 1, 1)
	for _, now := range []int{0, 1, 1 << 40, -1, math.MaxInt, math.MinInt} {
		if n := a.Sweep(now); n != 0 {
			t.Errorf("none at %d: %d", now, n)
		}
	}
}

// What is over when has changed: a time that has grown, the one that was over first dropped, an earlier one put.
func TestP1102SweepLater(t *testing.T) {
	test(t, 100, 100,
		row{puts(block(1, 1, 0, 5), 0), "ok", "1 1 0 5"},
		row{puts(block(1, 1, 0, 8), 0), "ok", "1 1 0 8"},
		row{sweeps(5), "0", "1 1 0 8"},
		row{sweeps(7), "0", "1 1 0 8"},
		row{puts(block(2, 1, 0, 4), 0), "ok", "1 1 0 8, 2 1 0 4"},
		row{sweeps(3), "0", "1 1 0 8, 2 1 0 4"},
		row{sweeps(4), "1", "1 1 0 8"},
		row{puts(block(3, 1, 0, 6), 5), "ok", "1 1 0 8, 3 1 0 6"},
		row{drops(3), "true", "1 1 0 8"},
		row{sweeps(7), "0", "1 1 0 8"},
		row{puts(block(4, 1, 0, 1), 0), "ok", "1 1 0 8, 4 1 0 1"},
		row{sweeps(8), "2", ""},
		row{puts(block(5, 1, 0, 1), 0), "ok", "5 1 0 1"},
		row{sweeps(0), "0", "5 1 0 1"},
		row{sweeps(1), "1", ""})
}

func TestP1102All(t *testing.T) {
	a := made(t, 1000, 1000)
	if l := a.All(); len(l) != 0 {
		t.Errorf("none: %v", l)
	}
	r := rand.New(rand.NewSource(1102))
	var want []api.Block
	for i := range 300 {
		b := api.Block{Data: []byte{byte(i), byte(i >> 8)}[:i%3], Source: i % 7, Expires: 1 + i}
		r.Read(b.Key[:])
		switch i % 3 {
		case 0: // they differ at the end
			b.Key = api.Id{31: byte(i)}
		case 1: // at the beginning
			b.Key = api.Id{0: byte(i), 1: 0xff}
		}
		if slices.ContainsFunc(want, func(w api.Block) bool { return w.Key == b.Key }) {
			continue
		}
		if e := a.Put(b, 0); e != api.OK {
			t.Fatal(e)
		}
		want = append(want, b)
		slices.SortFunc(want, func(a, b api.Block) int { return bytes.Compare(a.Key[:], b.Key[:]) })
		if l := a.All(); !slices.EqualFunc(l, want, sameBlock) {
			t.Fatalf("%d: %v", i, l)
		}
	}
	if len(want) < 250 {
		t.Error(len(want))
	}
}

func sameBlock(a, b api.Block) bool {
	return a.Key == b.Key && bytes.Equal(a.Data, b.Data) && a.Source == b.Source && a.Expires == b.Expires
}

func TestP1102UsedTotal(t *testing.T) {
	a := made(t, 30, 20)
	want := func(zero, one, two int) {
		t.Helper()
		if a.Used(0) != zero || a.Used(1) != one || a.Used(2) != two || a.Total() != zero+one+two {
			t.Errorf("%d, %d, %d, all %d, not %d, %d, %d", a.Used(0), a.Used(1), a.Used(2), a.Total(), zero, one, two)
		}
		for _, source := range []int{-1, 3, 1 << 32, math.MaxInt, math.MinInt} {
			if n := a.Used(source); n != 0 {
				t.Errorf("%d has %d", source, n)
			}
		}
	}
	want(0, 0, 0)
	a.Put(block(1, 7, 0, 5), 0)
	want(7, 0, 0)
	a.Put(block(2, 9, 1, 6), 0)
	want(7, 9, 0)
	a.Put(block(3, 4, 0, 7), 0)
	want(11, 9, 0)
	a.Put(block(4, 0, 2, 7), 0)
	want(11, 9, 0)
	a.Put(block(1, 8, 2, 5), 0) // there
	want(11, 9, 0)
	a.Put(block(5, 21, 2, 7), 0) // refused
	want(11, 9, 0)
	a.Put(block(5, 11, 2, 7), 0) // refused
	want(11, 9, 0)
	a.Put(block(5, 10, 2, 7), 0)
	want(11, 9, 10)
	a.Get(id(1), 5)
	want(11, 9, 10)
	a.Put(block(6, 5, -1, 99), 9)
	want(11, 9, 10)
	a.Sweep(5)
	want(4, 9, 10)
	a.Drop(id(3))
	want(0, 9, 10)
	a.Drop(id(3))
	want(0, 9, 10)
	a.Put(block(6, 21, 0, 9), 6) // refused, and swept
	want(0, 0, 10)
	a.Put(block(6, 20, 0, 9), 7)
	want(20, 0, 0)
	a.Sweep(9)
	want(0, 0, 0)
}

// Sources that have nothing any more, over and over.
func TestP1102SourcesGo(t *testing.T) {
	a := made(t, 3, 1)
	for i := range 20000 {
		if e := a.Put(block(i, i%2, i, i+3), i); e != api.OK || len(a.All()) > 3 {
			t.Fatalf("%d: %v", i, e)
		}
	}
	if len(a.used) > 3 || len(a.blocks) > 3 {
		t.Errorf("%d sources, %d blocks are kept", len(a.used), len(a.blocks))
	}
}

// All rows of a few calls.
func TestP1103EveryFewCalls(t *testing.T) {
	all := []call{
		puts(block(1, 2, 0, 2), 0), puts(block(1, 3, 1, 3), 1), puts(block(2, 1, 0, 3), 1), puts(block(2, 2, 1, 4), 2), puts(block(3, 0, 1, 2), 1), puts(block(3, 3, 2, 9), 0),
		puts(block(4, 4, 0, 9), 3), puts(block(5, 1, -1, 9), 9), drops(1), drops(3), sweeps(1), sweeps(2), sweeps(3),
	}
	const long = 4
	for _, x := range [][2]int{{4, 2}, {4, 3}, {5, 3}, {3, 4}} {
		var calls []call
		var next func()
		next = func() {
			if len(calls) == long {
				run(t, x[0], x[1], calls...)
				return
			}
			for _, c := range all {
				calls = append(calls, c)
				next()
				calls = calls[:len(calls)-1]
			}
		}
		next()
	}
}

// somePut is a call on few keys and sources, round the time now.
func somePut(r *rand.Rand, now int) call {
	return puts(block(r.Intn(20), r.Intn(20), r.Intn(6)-1, now+r.Intn(15)-1), now)
}

func TestP1103LongRows(t *testing.T) {
	r := rand.New(rand.NewSource(1103))
	for range 300 {
		var calls []call
		now := 5
		for range 150 {
			switch r.Intn(8) {
			case 0:
				calls = append(calls, drops(r.Intn(20)))
			case 1:
				calls = append(calls, sweeps(now))
			case 2:
				calls = append(calls, gets(r.Intn(20), now+r.Intn(5)-2))
			default:
				calls = append(calls, somePut(r, max(0, now)))
			}
			now += r.Intn(5) - 1 // back too
		}
		run(t, 1+r.Intn(120), 1+r.Intn(60), calls...)
	}
}

func FuzzP1103Calls(f *testing.F) {
	f.Add(10, 4, []byte("\x00\x01\x05\x00\x09\x00\x01\x02\x04\x00\x09\x00"))
	f.Add(30, 10, []byte("\x00\x01\x0a\x01\x05\x00\x00\x02\x0a\x01\x05\x00\x00\x02\x0a\x01\x09\x05\x02\x00\x00\x00\x00\x09"))
	f.Fuzz(func(t *testing.T, room, quota int, b []byte) {
		if room < 1 || quota < 1 || room > 1<<30 || quota > 1<<30 {
			refused(t, room, quota)
			return
		}
		var calls []call
		for b = b[:min(len(b), 600)]; len(b) >= 6; b = b[6:] {
			key, now := int(b[1]), int(b[5])-2
			size := int(b[2])
			if size > 250 {
				size = 5750 + size
			}
			switch b[0] % 4 {
			case 0, 1:
				calls = append(calls, puts(block(key, size, int(b[3])-1, int(b[4])), now))
			case 2:
				calls = append(calls, drops(key))
			default:
				calls = append(calls, sweeps(now))
			}
		}
		run(t, room, quota, calls...)
	})
}

func BenchmarkPut(b *testing.B) {
	for _, size := range []int{0, 64, 6000} {
		b.Run(fmt.Sprint(size), func(b *testing.B) {
			a := made(b, 1<<30, 1<<30)
			for i := 0; b.Loop(); i++ {
				x := api.Block{Key: api.Id{byte(i), byte(i >> 8), byte(i >> 16)}, Data: make([]byte, size), Expires: i/10 + 20}
				if e := a.Put(x, i/10); e != api.OK {
					b.Fatal(e)
				}
			}
		})
	}
}
