package ident

import (
	"crypto/sha256"
	"math"
	"math/big"
	"testing"

	"lattice/api"
	"lattice/sha"
)

// small is the id of a number from 0 on; of one below 0, that id so far below 2^256.
func small(n int64) api.Id { return fromBig(big.NewInt(n)) }

func toBig(a api.Id) *big.Int { return new(big.Int).SetBytes(a[:]) }

func fromBig(n *big.Int) api.Id {
	all := new(big.Int).Lsh(big.NewInt(1), 256)
	var id api.Id
	new(big.Int).Mod(n, all).FillBytes(id[:])
	return id
}

// full is an id of one byte, again and again.
func full(b byte) api.Id {
	var id api.Id
	for i := range id {
		id[i] = b
	}
	return id
}

// with is a with another byte at one place.
func with(a api.Id, at int, b byte) api.Id {
	a[at] = b
	return a
}

// some ids: the ends of the ring, neighbours about them and about the middle, ids that are parted in their first or their last byte alone, and those of nodes.
func some() []api.Id {
	base := sha.Sum([]byte("base"))
	return []api.Id{
		small(0), small(1), small(2), small(255), small(256), small(257), small(-1), small(-2), small(-256), small(-257),
		full(0x7f), with(full(0), 0, 0x80), with(full(0xff), 0, 0x7f), full(0x80),
		base, with(base, 31, base[31]+1), with(base, 31, base[31]^0x80), with(base, 0, base[0]^0x80), with(base, 16, base[16]^1),
		Of(0), Of(1), Of(255),
	}
}

// metFirst tells by distances, and not by order, whether x is met ahead of b going up from a: a itself lies a whole round away.
func metFirst(a, x, b api.Id) bool {
	way := func(to api.Id) *big.Int {
		all := new(big.Int).Lsh(big.NewInt(1), 256)
		if to == a {
			return all
		}
		d := new(big.Int).Sub(toBig(to), toBig(a))
		return d.Mod(d, all)
	}
	return x != a && way(x).Cmp(way(b)) < 0
}

func TestP201OfEveryNode(t *testing.T) {
	seen := map[api.Id]int{}
	for node := range 256 {
		got := Of(node)
		if want := api.Id(sha256.Sum256([]byte{'n', 'o', 'd', 'e', byte(node)})); got != want {
			t.Errorf("node %d: %x, want %x", node, got, want)
		}
		if other, is := seen[got]; is {
			t.Errorf("nodes %d and %d have one id", other, node)
		}
		seen[got] = node
	}
}

func TestP201OfKnown(t *testing.T) {
	for node, want := range map[int]string{
		0:   "a17bc67868a6f071cba8b7faaebc26ea8b6ae2f5ef9dd1d7502647d5351ed329",
		9:   "2a367d396dfcacaef00db8ebf8c387863126efc82b41de9a4cba6807d3ded73a",
		255: "5352ed892b91ff92c0785170dbc4e8442c903d62a4fdb9e0efe0a6165a319f28",
	} {
		if got := sha.Text(Of(node)); got != want {
			t.Errorf("node %d: %s, want %s", node, got, want)
		}
	}
}

// P8: of a number that no node has only this is promised, that the call ends; here it has no node's id.
func TestP201OfNoNode(t *testing.T) {
	nodes := map[api.Id]int{}
	for node := range 256 {
		nodes[Of(node)] = node
	}
	for _, no := range []int{-1, -255, -256, 256, 257, 511, 512, 1 << 16, math.MaxInt, math.MinInt} {
		if node, is := nodes[Of(no)]; is {
			t.Errorf("%d has the id of node %d", no, node)
		}
	}
}

func TestP201AddEveryPower(t *testing.T) {
	for _, a := range append(some(), full(0xfe), full(1)) {
		for k := range 256 {
			got, e := Add(a, k)
			want := fromBig(new(big.Int).Add(toBig(a), new(big.Int).Lsh(big.NewInt(1), uint(k))))
			if e != api.OK || got != want {
				t.Errorf("%x and 2^%d: %x, %v, want %x", a, k, got, e, want)
			}
		}
	}
}

func TestP201AddEdges(t *testing.T) {
	low, high := small(0), full(0xff)
	for _, c := range []struct {
		name string
		a    api.Id
		k    int
		want api.Id
	}{
		{"2^0", low, 0, with(low, 31, 1)},
		{"2^7, the last byte's highest bit", low, 7, with(low, 31, 0x80)},
		{"2^8, the last byte but one", low, 8, with(low, 30, 1)},
		{"2^255, the first byte's highest bit", low, 255, with(low, 0, 0x80)},
		{"2^248, the first byte's lowest bit", low, 248, with(low, 0, 1)},
		{"a carry over one byte", with(low, 31, 0xff), 0, with(low, 30, 1)},
		{"a carry over all bytes but the first", with(high, 0, 0), 0, with(low, 0, 1)},
		{"a carry over all bytes and round", high, 0, low},
		{"a carry out of a byte that is not nought behind it", high, 7, with(low, 31, 0x7f)},
		{"a carry from the last byte but one, and round", high, 8, with(low, 31, 0xff)},
		{"2^255 twice is a round", with(low, 0, 0x80), 255, low},
		{"round from the highest", high, 255, with(high, 0, 0x7f)},
		{"no carry where a byte is just filled", with(low, 31, 0x7f), 7, with(low, 31, 0xff)},
		{"bytes below stay", with(full(0x11), 30, 0xff), 8, with(with(full(0x11), 30, 0), 29, 0x12)},
	} {
		if got, e := Add(c.a, c.k); e != api.OK || got != c.want {
			t.Errorf("%s: %x, %v, want %x", c.name, got, e, c.want)
		}
	}
}

func TestP201AddRefuses(t *testing.T) {
	for _, a := range some() {
		for _, k := range []int{-1, -2, -7, -8, -255, -256, 256, 257, 263, 264, 511, 512, 1 << 32, math.MaxInt, math.MinInt} {
			if got, e := Add(a, k); e != api.ErrArg || got != (api.Id{}) {
				t.Errorf("%x and 2^%d: %x, %v", a, k, got, e)
			}
		}
	}
}

func TestP201LessIsAsNumbers(t *testing.T) {
	for _, a := range some() {
		for _, b := range some() {
			if got, want := Less(a, b), toBig(a).Cmp(toBig(b)) < 0; got != want {
				t.Errorf("%x, %x: %v", a, b, got)
			}
		}
	}
}

// Each byte counts, the earlier ones more, and as numbers of 0 to 255.
func TestP201LessEveryByte(t *testing.T) {
	mid := full(0x80)
	for at := range mid {
		for _, lower := range []byte{0, 1, 0x7f} {
			low := with(mid, at, lower)
			if at+1 < len(mid) {
				low[len(mid)-1] = 0xff
			}
			if !Less(low, mid) || Less(mid, low) {
				t.Errorf("byte %d is %d", at, lower)
			}
		}
		high := with(full(0), at, 0xff)
		if !Less(full(0), high) || Less(high, full(0)) || Less(high, high) {
			t.Errorf("byte %d is 255", at)
		}
	}
}

func TestP202DocExamples(t *testing.T) {
	if !Between(small(5), small(3), small(4)) {
		t.Error("Between(5, 3, 4)")
	}
	if !Between(small(5), small(6), small(5)) {
		t.Error("Between(5, 6, 5)")
	}
	if !Within(small(5), small(5), small(5)) {
		t.Error("Within(5, 5, 5)")
	}
}

func TestP202Ordinary(t *testing.T) {
	for _, c := range []struct {
		a, x, b int64
		between bool
		within  bool
	}{
		{1, 2, 3, true, true},
		{1, 3, 2, false, false},
		{2, 1, 3, false, false},
		{3, 1, 2, true, true},
		{3, 2, 1, false, false},
		{2, 3, 1, true, true},
		{-2, -1, 0, true, true},
		{-1, 0, 1, true, true},
		{-1, 1, 0, false, false},
		{0, -1, 1, false, false},
		{1, -1, 0, true, true},
		{0, 1, -1, true, true},
	} {
		a, x, b := small(c.a), small(c.x), small(c.b)
		if Between(a, x, b) != c.between || Within(a, x, b) != c.within {
			t.Errorf("%d, %d, %d: %v, %v", c.a, c.x, c.b, Between(a, x, b), Within(a, x, b))
		}
	}
}

func TestP202TwoOrThreeAreTheSame(t *testing.T) {
	for _, a := range some() {
		if Between(a, a, a) {
			t.Errorf("Between, %x three times", a)
		}
		if !Within(a, a, a) {
			t.Errorf("Within, %x three times", a)
		}
		for _, b := range some() {
			if a == b {
				continue
			}
			if !Between(a, b, a) || !Within(a, b, a) {
				t.Errorf("from %x to itself: %x is not met", a, b)
			}
			if Between(a, a, b) || Within(a, a, b) {
				t.Errorf("from %x to %x: the first is met", a, b)
			}
			if Between(a, b, b) {
				t.Errorf("from %x to %x: the second is between", a, b)
			}
			if !Within(a, b, b) {
				t.Errorf("from %x to %x: the second is not within", a, b)
			}
		}
	}
}

func TestP202ByDistance(t *testing.T) {
	for _, a := range some() {
		for _, x := range some() {
			for _, b := range some() {
				want := metFirst(a, x, b)
				if Between(a, x, b) != want {
					t.Errorf("Between(%x, %x, %x): not %v", a, x, b, want)
				}
				if Within(a, x, b) != (want || x == b) {
					t.Errorf("Within(%x, %x, %x): not %v", a, x, b, want || x == b)
				}
			}
		}
	}
}

// Ids that are alike up to any one byte: none may be taken for another.
func TestP202PartedInOneByte(t *testing.T) {
	base := full(0x55)
	for at := range base {
		low, high := with(base, at, 0x54), with(base, at, 0x56)
		if !Between(low, base, high) || Between(high, base, low) || !Between(base, high, low) || !Between(high, low, base) {
			t.Errorf("parted in byte %d", at)
		}
		if !Between(base, high, base) || Within(low, high, base) || !Within(low, base, base) {
			t.Errorf("parted in byte %d, two being the same", at)
		}
	}
}

func TestP203OneIsMetFirst(t *testing.T) {
	for _, a := range some() {
		for _, b := range some() {
			for _, c := range some() {
				if a == b || b == c || a == c {
					continue
				}
				if Between(a, b, c) == Between(a, c, b) {
					t.Errorf("from %x: of %x and %x both, or neither, are met first", a, b, c)
				}
				if Between(a, b, c) != Between(b, c, a) || Between(b, c, a) != Between(c, a, b) {
					t.Errorf("%x, %x, %x: the order hangs on where one begins", a, b, c)
				}
			}
		}
	}
}

// P2, P3: nothing is kept from call to call, and a keeps its bytes.
func TestP3Same(t *testing.T) {
	a := full(0xff)
	for range 3 {
		sum, e := Add(a, 0)
		if e != api.OK || sum != (api.Id{}) || a != full(0xff) {
			t.Fatalf("%x, %v, of %x", sum, e, a)
		}
		if Of(7) != api.Id(sha256.Sum256([]byte("node\x07"))) {
			t.Fatal("Of(7) changes")
		}
	}
}

func FuzzP202AndP203(f *testing.F) {
	id := func(row []byte) api.Id {
		var a api.Id
		copy(a[:], row)
		return a
	}
	f.Add([]byte{}, []byte{1}, []byte{2}, 0)
	f.Add([]byte{2}, []byte{1}, []byte{2, 3}, 255)
	f.Fuzz(func(t *testing.T, first, second, third []byte, k int) {
		a, x, b := id(first), id(second), id(third)
		if want := metFirst(a, x, b); Between(a, x, b) != want || Within(a, x, b) != (want || x == b) {
			t.Errorf("%x, %x, %x: not %v", a, x, b, want)
		}
		sum, e := Add(a, k)
		if k < 0 || k > 255 {
			if e != api.ErrArg || sum != (api.Id{}) {
				t.Errorf("%x and 2^%d: %x, %v", a, k, sum, e)
			}
			return
		}
		if want := fromBig(new(big.Int).Add(toBig(a), new(big.Int).Lsh(big.NewInt(1), uint(k)))); sum != want || e != api.OK {
			t.Errorf("%x and 2^%d: %x, %v", a, k, sum, e)
		}
	})
}
