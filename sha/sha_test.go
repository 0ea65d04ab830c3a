package sha

import (
	"bytes"
	"crypto/sha256"
	"encoding/hex"
	"math/big"
	"strings"
	"testing"

	"lattice/api"
)

// row is n bytes of which no two neighbours and no two chunks are alike.
func row(n int) []byte {
	b := make([]byte, n)
	for i := range b {
		b[i] = byte(i*7 + i/64*13 + 1)
	}
	return b
}

func idFromHex(t *testing.T, text string) api.Id {
	t.Helper()
	b, err := hex.DecodeString(text)
	if err != nil || len(b) != len(api.Id{}) {
		t.Fatalf("no id: %q", text)
	}
	return api.Id(b)
}

func TestP101Known(t *testing.T) {
	for _, c := range []struct{ name, in, want string }{
		{"no bytes", "", "e3b0c44298fc1c149afbf4c8996fb92427ae41e4649b934ca495991b7852b855"},
		{"abc", "abc", "ba7816bf8f01cfea414140de5dae2223b00361a396177a9cb410ff61f20015ad"},
		{"two chunks, 56 bytes", "abcdbcdecdefdefgefghfghighijhijkijkljklmklmnlmnomnopnopq", "248d6a61d20638b8e5c026930c3e6039a33ce45964ff2167f6ecedd419db06c1"},
		{"112 bytes", "abcdefghbcdefghicdefghijdefghijkefghijklfghijklmghijklmnhijklmnoijklmnopjklmnopqklmnopqrlmnopqrsmnopqrstnopqrstu", "cf5b16a778af8380036ce59e7b0492370b249b11e8f07a51afac45037afee9d1"},
		{"a million", strings.Repeat("a", 1000000), "cdc76e5c9914fb9281a1c7e284d73e67f1809a48a497200e046d39ccc7112cd0"},
	} {
		if got := Sum([]byte(c.in)); got != idFromHex(t, c.want) {
			t.Errorf("%s: %x", c.name, got)
		}
	}
}

func TestP101NilIsEmpty(t *testing.T) {
	if Sum(nil) != Sum([]byte{}) {
		t.Error("no row and an empty one have two hashes")
	}
}

func TestP101DocExample(t *testing.T) {
	if got := Text(Sum([]byte("abc"))); !strings.HasPrefix(got, "ba7816bf"+"8f01cfea") {
		t.Errorf("Sum(abc) begins otherwise: %s", got)
	}
}

// Each length up to five chunks, so that the ending goes through every place about a multiple of 64 more than once.
func TestP101EveryLength(t *testing.T) {
	for n := range 5*64 + 2 {
		for name, b := range map[string][]byte{"row": row(n), "noughts": make([]byte, n), "ones": bytes.Repeat([]byte{0xff}, n)} {
			if got, want := Sum(b), api.Id(sha256.Sum256(b)); got != want {
				t.Errorf("%d bytes (%s): %x, want %x", n, name, got, want)
			}
		}
	}
}

func TestP101Edges(t *testing.T) {
	for _, n := range []int{0, 1, 54, 55, 56, 57, 62, 63, 64, 65, 118, 119, 120, 127, 128, 129, 1000, 6000} {
		b := row(n)
		if got, want := Sum(b), api.Id(sha256.Sum256(b)); got != want {
			t.Errorf("%d bytes: %x, want %x", n, got, want)
		}
	}
}

// The length in bits needs its third, fourth and fifth byte only for longer texts; the fifth is told by the ending itself.
func TestP101LengthField(t *testing.T) {
	for _, n := range []int{31, 32, 8191, 8192, 1 << 16, 1<<21 - 1, 1 << 21, 1<<21 + 63} {
		b := row(n)
		if got, want := Sum(b), api.Id(sha256.Sum256(b)); got != want {
			t.Errorf("%d bytes: %x, want %x", n, got, want)
		}
	}
	end, n := ending([]byte{1, 2, 3}, 1<<31-1)
	want := append([]byte{1, 2, 3, 0x80}, make([]byte, 52)...)
	want = append(want, 0, 0, 0, 3, 0xff, 0xff, 0xff, 0xf8)
	if n != 64 || !bytes.Equal(end[:n], want) {
		t.Errorf("ending: %x", end[:n])
	}
}

func primes(n int) []int64 {
	var l []int64
next:
	for x := int64(2); len(l) < n; x++ {
		for _, p := range l {
			if x%p == 0 {
				continue next
			}
		}
		l = append(l, x)
	}
	return l
}

// isRootsFraction tells whether some whole number, then word, are the k-th root of p cut off behind 32 bits.
func isRootsFraction(word uint32, p, k int64) bool {
	power := func(x *big.Int) *big.Int { return new(big.Int).Exp(x, big.NewInt(k), nil) }
	goal := new(big.Int).Lsh(big.NewInt(p), uint(32*k))
	for whole := int64(0); whole <= p; whole++ {
		low := big.NewInt(whole<<32 | int64(word))
		high := new(big.Int).Add(low, big.NewInt(1))
		if power(low).Cmp(goal) <= 0 && power(high).Cmp(goal) > 0 {
			return true
		}
	}
	return false
}

func TestP101Tables(t *testing.T) {
	l := primes(64)
	for i, word := range firstState {
		if !isRootsFraction(word, l[i], 2) {
			t.Errorf("the state's word %d: %08x", i, word)
		}
	}
	for i, word := range roundWords {
		if !isRootsFraction(word, l[i], 3) {
			t.Errorf("the rounds' word %d: %08x", i, word)
		}
	}
}

func TestP102PairEveryCut(t *testing.T) {
	for _, n := range []int{0, 1, 2, 55, 56, 63, 64, 65, 127, 128, 129, 200} {
		b := row(n)
		want := api.Id(sha256.Sum256(b))
		for at := range n + 1 {
			if got := Pair(b[:at], b[at:]); got != want {
				t.Errorf("%d and %d bytes: %x, want %x", at, n-at, got, want)
			}
		}
	}
}

func TestP102PairEmpty(t *testing.T) {
	some := []byte("some bytes")
	for _, none := range [][]byte{nil, {}, make([]byte, 0, 8), some[:0], some[len(some):]} {
		if Pair(none, none) != Sum(nil) {
			t.Error("of two empty rows")
		}
		if Pair(none, some) != Sum(some) {
			t.Error("of an empty row and another")
		}
		if Pair(some, none) != Sum(some) {
			t.Error("of a row and an empty one")
		}
	}
}

func TestP102PairIsInOrder(t *testing.T) {
	a, b := []byte("ab"), []byte("c")
	if Pair(a, b) != Sum([]byte("abc")) || Pair(b, a) != Sum([]byte("cab")) {
		t.Error("Pair is not the first, then the second")
	}
}

// Rows that share memory: what stands behind a must not be taken for b, nor be overwritten by it.
func TestP102PairShared(t *testing.T) {
	whole := []byte("abcdefgh")
	a, b := whole[:5], whole[2:4]
	for range 2 {
		if Pair(a, b) != Sum([]byte("abcdecd")) || Pair(b, a) != Sum([]byte("cdabcde")) || Pair(a, a) != Sum([]byte("abcdeabcde")) {
			t.Fatal("of rows that share memory")
		}
	}
	if string(whole) != "abcdefgh" {
		t.Errorf("P2: %s", whole)
	}
}

func TestP102Text(t *testing.T) {
	var low, high, rising api.Id
	for i := range high {
		high[i] = 0xff
		rising[i] = byte(i)
	}
	for _, c := range []struct {
		id   api.Id
		want string
	}{
		{low, strings.Repeat("0", 64)},
		{high, strings.Repeat("f", 64)},
		{rising, "000102030405060708090a0b0c0d0e0f101112131415161718191a1b1c1d1e1f"},
		{api.Id{0: 0xab, 31: 0xcd}, "ab" + strings.Repeat("0", 60) + "cd"},
	} {
		if got := Text(c.id); got != c.want {
			t.Errorf("%s, want %s", got, c.want)
		}
	}
}

func TestP102TextEveryByte(t *testing.T) {
	for v := range 256 {
		for at := range len(api.Id{}) {
			var id api.Id
			id[at] = byte(v)
			got := Text(id)
			if len(got) != 64 || got != hex.EncodeToString(id[:]) {
				t.Fatalf("byte %d is %d: %s", at, v, got)
			}
		}
	}
}

func TestP103EveryBit(t *testing.T) {
	for _, n := range []int{1, 55, 56, 63, 64, 65, 119, 120, 128, 130} {
		b := row(n)
		was := Sum(b)
		for i := range b {
			for bit := range 8 {
				b[i] ^= 1 << bit
				if Sum(b) == was {
					t.Errorf("of %d bytes: not on bit %d of byte %d", n, bit, i)
				}
				b[i] ^= 1 << bit
			}
		}
	}
}

// Every length and every changed byte has a hash of its own, noughts among them: they are bytes like others.
func TestP103NoTwoAlike(t *testing.T) {
	seen := map[api.Id]string{}
	note := func(b []byte) {
		id := Sum(b)
		if other, is := seen[id]; is && other != string(b) {
			t.Errorf("%x and %x have one hash", other, b)
		}
		seen[id] = string(b)
	}
	for n := range 200 {
		note(make([]byte, n))
		note(append(make([]byte, n), 0x80))
		note(row(n))
	}
}

func TestP103PairHangsOnBoth(t *testing.T) {
	a, b := row(40), row(70)
	was := Pair(a, b)
	for _, l := range [][]byte{a, b} {
		for i := range l {
			l[i]++
			if Pair(a, b) == was {
				t.Errorf("not on byte %d of %d", i, len(l))
			}
			l[i]--
		}
	}
}

// P2: neither the rows nor their spare room change.
func TestP2Unchanged(t *testing.T) {
	for _, n := range []int{0, 1, 3, 55, 56, 63, 64, 65, 130} {
		mine, yours := row(n+200), row(n+300)
		a, b := mine[:n], yours[100:100+n]
		Sum(a)
		Sum(b)
		Pair(a, b)
		Pair(b, a)
		Pair(a, a)
		if !bytes.Equal(mine, row(n+200)) || !bytes.Equal(yours, row(n+300)) {
			t.Errorf("of %d bytes: what was handed in has changed", n)
		}
	}
}

// P2: only the row counts, not its spare room.
func TestP2SpareRoomIsNotRead(t *testing.T) {
	for _, n := range []int{0, 3, 55, 56, 64, 65} {
		one, other := row(n+100), append(row(n), make([]byte, 100)...)
		if Sum(one[:n]) != Sum(other[:n]) || Pair(one[:n], one[:n]) != Pair(other[:n], other[:n]) {
			t.Errorf("of %d bytes: the hash hangs on spare room", n)
		}
	}
}

// P2, P3: nothing is kept from call to call, and what was handed in may change behind it.
func TestP3Same(t *testing.T) {
	b := row(150)
	first, pair := Sum(b), Pair(b[:70], b[70:])
	text := Text(first)
	for i := range b {
		b[i] = 0
	}
	Sum(b)
	Pair(b, b)
	if again := row(150); Sum(again) != first || Pair(again[:70], again[70:]) != pair || Text(first) != text {
		t.Error("the same calls answer otherwise")
	}
}

func FuzzP101AndP102(f *testing.F) {
	f.Add([]byte(nil), []byte("abc"))
	f.Add(row(55), row(9))
	f.Fuzz(func(t *testing.T, a, b []byte) {
		if Sum(a) != api.Id(sha256.Sum256(a)) {
			t.Errorf("Sum(%x)", a)
		}
		both := append(bytes.Clone(a), b...)
		if want := sha256.Sum256(both); Pair(a, b) != api.Id(want) || Text(want) != hex.EncodeToString(want[:]) {
			t.Errorf("Pair(%x, %x)", a, b)
		}
	})
}

func BenchmarkSum(b *testing.B) {
	in := row(64)
	b.SetBytes(64)
	b.ReportAllocs()
	for b.Loop() {
		Sum(in)
	}
}
