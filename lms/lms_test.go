package lms

import (
	"bytes"
	"crypto/sha256"
	"encoding/hex"
	"fmt"
	"math"
	"math/rand"
	"slices"
	"strconv"
	"strings"
	"testing"

	"lattice/api"
	"lattice/ots"
)

// signer is what a tree hangs on.
type signer struct {
	name [16]byte
	seed api.Id
	h    int
}

func (s signer) String() string {
	return fmt.Sprintf("name %x, seed %x, height %d", s.name, s.seed, s.h)
}

func (s signer) public(t *testing.T) []byte {
	t.Helper()
	p, e := Public(s.name, s.seed, s.h)
	if e != api.OK {
		t.Fatalf("%v: Public: %v", s, e)
	}
	return p
}

func (s signer) sign(t *testing.T, q int, msg []byte) []byte {
	t.Helper()
	sig, e := Sign(s.name, s.seed, s.h, q, msg)
	if e != api.OK {
		t.Fatalf("%v, leaf %d: Sign: %v", s, q, e)
	}
	return sig
}

func full[A [16]byte | api.Id](b byte) A {
	var a A
	for i := range len(a) {
		a[i] = b
	}
	return a
}

func rising[A [16]byte | api.Id]() A {
	var a A
	for i := range len(a) {
		a[i] = byte(i)
	}
	return a
}

func ordinary(h int) signer { return signer{rising[[16]byte](), rising[api.Id](), h} }

// edges are signers of each height, with ordinary names and seeds, and with those of the edges.
func edges() []signer {
	var l []signer
	for h := 1; h <= 5; h++ {
		l = append(l, ordinary(h), signer{h: h}, signer{full[[16]byte](0xFF), full[api.Id](0xFF), h})
		l = append(l, signer{[16]byte{0: 1}, api.Id{31: 1}, h}, signer{[16]byte{15: 1}, api.Id{0: 0x80}, h})
	}
	return l
}

var (
	noHeights = []int{0, 6, -1, 7, 8, 32, 33, 63, 64, 65, 256, 257, 1<<32 + 2, 1 << 40, -1 << 32, -1<<32 + 2, math.MaxInt, math.MinInt, math.MinInt + 2}
	farLeaves = []int{-1, -2, 64, 256, 1<<32 - 1, 1 << 32, 1<<32 + 1, -1 << 32, -1<<32 + 1, 1 << 40, math.MaxInt, math.MinInt, math.MinInt + 1}
)

func hexOf(b []byte) string { return fmt.Sprintf("%x", b) }

func unhex(s string) []byte {
	b, err := hex.DecodeString(s)
	if err != nil {
		panic(err)
	}
	return b
}

// wantHash is the hash of rows in hexadecimal digits, one behind the other.
func wantHash(l ...string) string {
	sum := sha256.Sum256(unhex(strings.Join(l, "")))
	return hexOf(sum[:])
}

func four(n int) string { return fmt.Sprintf("%08x", n) }

// wantNodes is T of each number from 1 on, by P601.
func wantNodes(s signer) map[int]string {
	t, name := map[int]string{}, hexOf(s.name[:])
	for r := 2<<s.h - 1; r >= 1; r-- {
		if r >= 1<<s.h {
			once := ots.Public(s.name, r-1<<s.h, s.seed)
			t[r] = wantHash(name, four(r), "8282", hexOf(once[:]))
		} else {
			t[r] = wantHash(name, four(r), "8383", t[2*r], t[2*r+1])
		}
	}
	return t
}

func wantSign(s signer, t map[int]string, q int, msg []byte) string {
	sig := four(q) + hexOf(ots.Sign(s.name, q, s.seed, msg)) + four(s.h)
	for r := 1<<s.h + q; r > 1; r /= 2 {
		sig += t[r^1]
	}
	return sig
}

// wantTop is T(1), reckoned from node r's key for once along a path. Where r is none of the tree's, it is what r would
// lead to if nothing were asked of it.
func wantTop(name [16]byte, r int, once api.Id, path []byte) string {
	t := wantHash(hexOf(name[:]), four(r), "8282", hexOf(once[:]))
	for ; len(path) > 0; path = path[32:] {
		pair := []string{t + hexOf(path[:32]), hexOf(path[:32]) + t}
		t = wantHash(hexOf(name[:]), four(r/2), "8383", pair[r%2])
		r /= 2
	}
	return t
}

func wantCheck(public, msg, sig []byte) api.Errno {
	p, s := hexOf(public), hexOf(sig)
	h := 0
	for n := 1; n <= 5; n++ {
		if strings.HasPrefix(p, four(n)+"00000002") {
			h = n
		}
	}
	if len(p) != 2*56 || h == 0 {
		return api.ErrBad
	}
	if len(s) != 2*(4300+32*h) || s[2*4296:2*4300] != four(h) {
		return api.ErrSign
	}
	q, _ := strconv.ParseInt(s[:8], 16, 64)
	if q > 1<<h-1 {
		return api.ErrSign
	}
	name := [16]byte(public[8:24])
	once, e := ots.Back(name, int(q), msg, sig[4:4296])
	if e != api.OK {
		return e
	}
	if wantTop(name, 1<<h+int(q), once, sig[4300:]) != p[48:] {
		return api.ErrSign
	}
	return api.OK
}

// texts have the edges' lengths: about multiples of 64, alone and with the 54 bytes that stand ahead of a text in its hash.
func texts() [][]byte {
	var l [][]byte
	for _, n := range []int{0, 1, 9, 10, 55, 56, 63, 64, 65, 73, 74, 75, 128, 1000, 6000} {
		b := make([]byte, n)
		for i := range b {
			b[i] = byte(i*7 + n)
		}
		l = append(l, b)
	}
	return l
}

// roomy is a row with marked spare room, enough for a signature; whole is all of it.
func roomy(b []byte) (row, whole []byte) {
	whole = append(slices.Clone(b), bytes.Repeat([]byte{0xA5}, 5000)...)
	return whole[:len(b)], whole
}

// turned is a copy with some bits of one byte turned.
func turned(b []byte, at int, bits byte) []byte {
	out := slices.Clone(b)
	out[at] ^= bits
	return out
}

// put is a copy with other bytes at one place.
func put(b []byte, at int, other ...byte) []byte {
	out := slices.Clone(b)
	copy(out[at:], other)
	return out
}

func test(t *testing.T, public, msg, sig []byte, want api.Errno, what string, args ...any) {
	t.Helper()
	if e := Check(public, msg, sig); e != want {
		t.Errorf("%s: %v, not %v", fmt.Sprintf(what, args...), e, want)
	}
}

// fixed holds answers that were worked out outside of this program.
var fixed = []struct {
	signer signer
	q      int
	text   string
	public string
	sigSum string // SHA-256 of the whole signature
	last   string // row of the path
}{
	{
		signer{h: 1}, 0, "",
		"0000000100000002000000000000000000000000000000003db0ae78df8f571d36265e6df74f45bfc9e37f59635a84bddbd97b69f536cfb8",
		"b08efba6ac012668c702cc69e7c8e5b9bd778aec9de469937c03a999c836dd3c",
		"1048fb0bcfcc946220068f758cbd89aa6f03766490841ae7c81a758a781e4f86",
	},
	{
		signer{full[[16]byte](0xFF), full[api.Id](0xFF), 1}, 1, "\xff",
		"0000000100000002ffffffffffffffffffffffffffffffff88a622243fd50bdf7621bc1035fabc7313723bc2fafd9cd7b3a031b27a8368f9",
		"fec1ad85e2dde4561ac04d0df053e38ee90d96321e70dba67069eb7d31ea49e0",
		"ec83056215fb16bc1f434071ecba9ceb81cacb3d2b10fcb661f3c4402c548965",
	},
	{
		ordinary(2), 3, "abc",
		"0000000200000002000102030405060708090a0b0c0d0e0faeb1261a44c9d8671633174814fb4d02a1b22990bb08eedf8f3ed0894ade1d3a",
		"f83998f78120e23de51761af68fecc00b9732433bcbedca320f64574149492c8",
		"6a9d37de1d0b1e7d9260f3bef2df591eb501d287131c776ceeafc3af1f1fcb4a",
	},
	{
		ordinary(3), 4, "abc",
		"0000000300000002000102030405060708090a0b0c0d0e0f3e2e48cd46d7dcb0f91eb0923acc5886cff3793006c9d09fb868194be101eee4",
		"407a66aa9d543f0bef5a5e3319e6a744f8e0cb752fcc770dce49d72bc8da8725",
		"18e46100b914d208b95fa5f1e88434f6b1b9cec19fb49085497898fab7139bf5",
	},
	{
		ordinary(4), 9, strings.Repeat("a", 64),
		"0000000400000002000102030405060708090a0b0c0d0e0f4bedf6c217d51a325aa13c4a0dfa2d03187d1e53341349af79b1a86a8732c8e8",
		"567d2ed19e7a61dd6848a08f76cb7f67b67a447838c4c284748d22c6bdb10004",
		"fe9c8d9c1b27b1e1cb3849c71834e9a1a525c0a47e81760e5f002621a6f854f5",
	},
	{
		ordinary(5), 0, "abc",
		"0000000500000002000102030405060708090a0b0c0d0e0fb3ca7292b787481d4b6f36772d6d666d1c40514b10671cf2c8a1048fa2dd9b0e",
		"d8f887b8688b720d7b831997e743e30bf09befc20188208d412f5a9b0485f3fa",
		"152bfbe89f2bba95d7174c4800ab162281bb83b76f7f32f7395b6ccf0649e42a",
	},
	{
		ordinary(5), 31, "abc",
		"0000000500000002000102030405060708090a0b0c0d0e0fb3ca7292b787481d4b6f36772d6d666d1c40514b10671cf2c8a1048fa2dd9b0e",
		"23669a58ef1314ff63e2854bd7ba0a87f5ca27918a192d7cc54682707706f65b",
		"69ebbc0b666336bd96c3eec9a8650216c07e8aa14bfbb4fcca5ea63a221d149a",
	},
}

func TestP601Fixed(t *testing.T) {
	for _, f := range fixed {
		p, sig := f.signer.public(t), f.signer.sign(t, f.q, []byte(f.text))
		if hexOf(p) != f.public {
			t.Errorf("%v: %x, not %s", f.signer, p, f.public)
		}
		if sum := sha256.Sum256(sig); hexOf(sum[:]) != f.sigSum || hexOf(sig[len(sig)-32:]) != f.last {
			t.Errorf("%v, leaf %d: another signature", f.signer, f.q)
		}
		test(t, unhex(f.public), []byte(f.text), sig, api.OK, "%v, leaf %d", f.signer, f.q)
	}
}

func TestP601Public(t *testing.T) {
	for _, s := range edges() {
		want := four(s.h) + four(2) + hexOf(s.name[:]) + wantNodes(s)[1]
		if got := s.public(t); hexOf(got) != want || len(got) != 56 {
			t.Errorf("%v: %x, not %s", s, got, want)
		}
	}
}

func TestP601Sign(t *testing.T) {
	for _, s := range edges() {
		nodes, count := wantNodes(s), 1<<s.h
		for q := range count {
			if s != ordinary(s.h) && q != 0 && q != count/2 && q != count-1 {
				continue
			}
			msg := []byte{byte(q), 'x'}
			sig := s.sign(t, q, msg)
			if hexOf(sig) != wantSign(s, nodes, q, msg) || len(sig) != 4300+32*s.h {
				t.Errorf("%v, leaf %d: another signature, of %d bytes", s, q, len(sig))
			}
		}
	}
}

func TestP601Texts(t *testing.T) {
	s := ordinary(2)
	nodes := wantNodes(s)
	for i, msg := range texts() {
		if hexOf(s.sign(t, i%4, msg)) != wantSign(s, nodes, i%4, msg) {
			t.Errorf("text of %d bytes: another signature", len(msg))
		}
	}
	if !bytes.Equal(s.sign(t, 1, nil), s.sign(t, 1, []byte{})) {
		t.Error("no text and an empty one have unlike signatures")
	}
}

func TestP601NoHeight(t *testing.T) {
	for _, h := range noHeights {
		s := ordinary(h)
		if p, e := Public(s.name, s.seed, h); e != api.ErrArg || len(p) != 0 {
			t.Errorf("Public, height %d: %d bytes, %v", h, len(p), e)
		}
		// What is no height is told ahead of what is no leaf.
		for _, q := range append(slices.Clone(farLeaves), 0, 1, 2) {
			if sig, e := Sign(s.name, s.seed, h, q, []byte("abc")); e != api.ErrArg || len(sig) != 0 {
				t.Errorf("Sign, height %d, leaf %d: %d bytes, %v", h, q, len(sig), e)
			}
		}
	}
}

func TestP601NoLeaf(t *testing.T) {
	for h := 1; h <= 5; h++ {
		s := ordinary(h)
		for _, q := range append(slices.Clone(farLeaves), 1<<h, 1<<h+1, 2<<h) {
			if sig, e := Sign(s.name, s.seed, h, q, []byte("abc")); e != api.ErrSpent || len(sig) != 0 {
				t.Errorf("height %d, leaf %d: %d bytes, %v", h, q, len(sig), e)
			}
		}
	}
}

// The document's example.
func TestP601Example(t *testing.T) {
	if p, e := Public([16]byte{}, api.Id{}, 6); e != api.ErrArg || len(p) != 0 {
		t.Errorf("%x, %v", p, e)
	}
}

// badKeys are what is no public key, by what is wrong with it.
func badKeys(good []byte) map[string][]byte {
	m := map[string][]byte{
		"no bytes":             nil,
		"empty":                {},
		"55 bytes":             good[:55:55],
		"the last in the room": good[:55],
		"57 bytes":             append(slices.Clone(good), 0),
		"twice":                slices.Concat(good, good),
		"height only":          good[:4],
		"zeros":                make([]byte, 56),
		"full":                 bytes.Repeat([]byte{0xFF}, 56),
		"height the other way": put(good, 0, 2, 0, 0, 0),
		"2^31 and a height":    put(good, 0, 0x80, 0, 0, 2),
		"second the other way": put(good, 4, 2, 0, 0, 0),
		"both numbers 0":       put(good, 0, 0, 0, 0, 0, 0, 0, 0, 0),
	}
	for at := range 8 {
		for b := range 256 {
			isHeight := at == 3 && b >= 1 && b <= 5
			if !isHeight && int(good[at]) != b {
				m[fmt.Sprintf("byte %d is %d", at, b)] = put(good, at, byte(b))
			}
		}
	}
	return m
}

// Whatever is wrong with the signature: the key is told first.
func TestP602BadKey(t *testing.T) {
	msg := []byte("abc")
	for h := 1; h <= 5; h++ {
		s := ordinary(h)
		good, sig := s.public(t), s.sign(t, 1, msg)
		test(t, good, msg, sig, api.OK, "height %d", h)
		for what, p := range badKeys(good) {
			for _, x := range [][]byte{sig, nil, sig[:4299], turned(sig, 3, 0xF0), turned(sig, 4299, 1), turned(sig, 7, 1), turned(sig, 500, 1)} {
				test(t, p, msg, x, api.ErrBad, "height %d, key: %s, %d bytes of signature", h, what, len(x))
			}
		}
	}
}

func TestP602KeyLengths(t *testing.T) {
	msg, s := []byte("abc"), ordinary(3)
	good, sig := s.public(t), s.sign(t, 5, msg)
	long := slices.Concat(good, good, good)
	for n := range len(long) + 1 {
		want := api.ErrBad
		if n == 56 {
			want = api.OK
		}
		test(t, long[:n], msg, sig, want, "key of %d bytes", n)
	}
}

// A key that is one, but not the signature's.
func TestP602OtherKey(t *testing.T) {
	msg, s := []byte("abc"), ordinary(3)
	good, sig := s.public(t), s.sign(t, 5, msg)
	for at := 8; at < 56; at++ {
		for bit := range 8 {
			test(t, turned(good, at, 1<<bit), msg, sig, api.ErrSign, "bit %d of the key's byte %d turned", bit, at)
		}
	}
	for h := 1; h <= 5; h++ {
		if h == 3 {
			continue
		}
		test(t, put(good, 3, byte(h)), msg, sig, api.ErrSign, "key that says height %d", h)
		test(t, ordinary(h).public(t), msg, sig, api.ErrSign, "key of height %d", h)
	}
	test(t, signer{full[[16]byte](1), s.seed, 3}.public(t), msg, sig, api.ErrSign, "key of another name")
	test(t, signer{s.name, full[api.Id](1), 3}.public(t), msg, sig, api.ErrSign, "key of another seed")
}

func TestP602Lengths(t *testing.T) {
	msg := []byte("abc")
	for h := 1; h <= 5; h++ {
		s := ordinary(h)
		p, sig := s.public(t), s.sign(t, 1, msg)
		long := slices.Concat(sig, sig)
		for n := range len(long) + 1 {
			if n == len(sig) {
				continue
			}
			test(t, p, msg, long[:n], api.ErrSign, "height %d, %d bytes", h, n)
		}
		test(t, p, msg, nil, api.ErrSign, "height %d, no bytes", h)
		// What lies in the spare room is none of a signature's bytes.
		test(t, p, msg, sig[:len(sig)-1], api.ErrSign, "height %d, a byte in the spare room", h)
		test(t, p, msg, append(slices.Clone(sig), 0), api.ErrSign, "height %d, a byte more", h)
	}
}

// A signature of another height than the key's: with its own length, with the key's, and said to be of the key's.
func TestP602OtherHeight(t *testing.T) {
	msg := []byte("abc")
	for h := 1; h <= 5; h++ {
		p := ordinary(h).public(t)
		for other := 1; other <= 5; other++ {
			if other == h {
				continue
			}
			sig := ordinary(other).sign(t, 1, msg)
			test(t, p, msg, sig, api.ErrSign, "height %d by %d", other, h)
			test(t, p, msg, put(sig, 4299, byte(h)), api.ErrSign, "height %d by %d, but for the number", other, h)
			cut := append(slices.Clone(sig), make([]byte, 160)...)[:4300+32*h]
			test(t, p, msg, cut, api.ErrSign, "height %d by %d, but for the length", other, h)
			test(t, p, msg, put(cut, 4299, byte(h)), api.ErrSign, "height %d by %d, but for the path", other, h)
		}
	}
}

// A right signature but for the height that it says.
func TestP602HeightBytes(t *testing.T) {
	msg, s := []byte("abc"), ordinary(2)
	p, sig := s.public(t), s.sign(t, 3, msg)
	for at := 4296; at < 4300; at++ {
		for b := range 256 {
			if int(sig[at]) != b {
				test(t, p, msg, put(sig, at, byte(b)), api.ErrSign, "byte %d is %d", at, b)
			}
		}
	}
}

// A leaf that is none is refused by its number alone: the key here is the very one to which it would lead.
func TestP602NoLeaf(t *testing.T) {
	msg := []byte("abc")
	for h := 1; h <= 5; h++ {
		s := ordinary(h)
		good := s.sign(t, 1, msg)
		for _, q := range []int{1 << h, 1<<h + 1, 2<<h - 1, 2 << h, 64, 255, 256, 1 << 16, 1 << 24, 1<<31 - 1, 1 << 31, 1<<31 + 1, 1<<32 - 1<<h, 1<<32 - 1} {
			sig := unhex(four(q) + hexOf(good[4:]))
			once, e := ots.Back(s.name, q, msg, sig[4:4296])
			if e != api.OK {
				t.Fatal(e)
			}
			for _, r := range []int{1<<h + q, 1<<h + q&(1<<h-1)} {
				p := unhex(four(h) + four(2) + hexOf(s.name[:]) + wantTop(s.name, r&(1<<32-1), once, sig[4300:]))
				test(t, p, msg, sig, api.ErrSign, "height %d, leaf %d", h, q)
			}
		}
	}
}

// Every leaf's number but the signature's own is another leaf's, or none's.
func TestP602OtherLeaf(t *testing.T) {
	msg := []byte("abc")
	for h := 1; h <= 5; h++ {
		s := ordinary(h)
		p, sig := s.public(t), s.sign(t, 1, msg)
		for q := range 1 << h {
			if q != 1 {
				test(t, p, msg, put(sig, 3, byte(q)), api.ErrSign, "height %d, leaf 1's as leaf %d's", h, q)
			}
		}
		for at := range 4 {
			for bit := range 8 {
				test(t, p, msg, turned(sig, at, 1<<bit), api.ErrSign, "height %d, bit %d of byte %d turned", h, bit, at)
			}
		}
	}
}

func TestP602WrongType(t *testing.T) {
	msg, s := []byte("abc"), ordinary(1)
	p, sig := s.public(t), s.sign(t, 0, msg)
	for at := 4; at < 8; at++ {
		for b := range 256 {
			if int(sig[at]) != b {
				test(t, p, msg, put(sig, at, byte(b)), api.ErrSign, "byte %d is %d", at, b)
			}
		}
	}
	// It leads nowhere, not even to the key that the id beside Back's error would give.
	none := unhex(four(1) + four(2) + hexOf(s.name[:]) + wantTop(s.name, 2, api.Id{}, sig[4300:]))
	for at := 4; at < 8; at++ {
		test(t, none, msg, turned(sig, at, 1), api.ErrSign, "byte %d turned, by the key of no key for once", at)
	}
}

// Whichever byte of a signature is turned: none is without weight.
func TestP602Turned(t *testing.T) {
	msg := []byte("abc")
	for h := 1; h <= 5; h++ {
		s := ordinary(h)
		p, sig := s.public(t), s.sign(t, 1<<h-2, msg)
		for at := range sig {
			// All bytes at one height; at the others some within, and all of the numbers and of the path.
			if h == 5 || at >= 4296 || at < 36 || at%37 == h {
				test(t, p, msg, turned(sig, at, 1<<(at%8)), api.ErrSign, "height %d, byte %d turned", h, at)
			}
		}
	}
}

func TestP602PathRows(t *testing.T) {
	msg, s := []byte("abc"), ordinary(5)
	p, q := s.public(t), 0b10110
	sig := s.sign(t, q, msg)
	row := func(i int) []byte { return sig[4300+32*i : 4332+32*i] }
	for i := range 5 {
		test(t, p, msg, put(sig, 4300+32*i, make([]byte, 32)...), api.ErrSign, "row %d zeros", i)
		for k := range i {
			swapped := put(put(sig, 4300+32*i, row(k)...), 4300+32*k, row(i)...)
			test(t, p, msg, swapped, api.ErrSign, "rows %d and %d exchanged", i, k)
		}
	}
	// The rows that lead up from the leaf itself, in place of those beside.
	nodes := wantNodes(s)
	for i := range 5 {
		test(t, p, msg, put(sig, 4300+32*i, unhex(nodes[(1<<5+q)>>i])...), api.ErrSign, "row %d the way's own", i)
	}
}

// A key that no signer made: the one that a signature of any bytes leads to, by P602 alone.
func TestP602AnyBytes(t *testing.T) {
	r := rand.New(rand.NewSource(6))
	for n := range 200 {
		h := 1 + n%5
		s := signer{h: h}
		r.Read(s.name[:])
		msg := make([]byte, n)
		r.Read(msg)
		q := r.Intn(1 << h)
		sig := make([]byte, 4300+32*h)
		r.Read(sig)
		copy(sig, unhex(four(q)+four(2)))
		copy(sig[4296:], unhex(four(h)))
		once, e := ots.Back(s.name, q, msg, sig[4:4296])
		if e != api.OK {
			t.Fatal(e)
		}
		p := unhex(four(h) + four(2) + hexOf(s.name[:]) + wantTop(s.name, 1<<h+q, once, sig[4300:]))
		test(t, p, msg, sig, api.OK, "height %d, leaf %d, any bytes", h, q)
		test(t, turned(p, 24+n%32, 1<<(n%8)), msg, sig, api.ErrSign, "height %d, leaf %d, another top", h, q)
		test(t, p, append(msg, 0), sig, api.ErrSign, "height %d, leaf %d, another text", h, q)
		at := 4300 + r.Intn(32*h)
		test(t, p, msg, turned(sig, at, 1<<(n%8)), api.ErrSign, "height %d, leaf %d, byte %d turned", h, q, at)
	}
}

// What was signed is right, by its public key alone: by bytes that nothing else was made of.
func TestP603EachLeaf(t *testing.T) {
	for _, s := range edges() {
		p, count := s.public(t), 1<<s.h
		for q := range count {
			if s != ordinary(s.h) && q != 0 && q != 1 && q != count/2 && q != count-1 {
				continue
			}
			msg := fmt.Appendf(nil, "version %d", q)
			test(t, slices.Clone(p), slices.Clone(msg), slices.Clone(s.sign(t, q, msg)), api.OK, "%v, leaf %d", s, q)
		}
	}
}

func TestP603Texts(t *testing.T) {
	s := ordinary(2)
	p := s.public(t)
	for i, msg := range texts() {
		sig := s.sign(t, i%4, msg)
		test(t, p, msg, sig, api.OK, "text of %d bytes", len(msg))
		test(t, p, append(slices.Clone(msg), 0), sig, api.ErrSign, "text of %d bytes, and a zero", len(msg))
		test(t, p, append(slices.Clone(msg), 0x80), sig, api.ErrSign, "text of %d bytes, and 80", len(msg))
		for at := 0; at < len(msg); at += 1 + len(msg)/70 {
			test(t, p, turned(msg, at, 1<<(at%8)), sig, api.ErrSign, "text of %d bytes, byte %d turned", len(msg), at)
			test(t, p, msg[:at], sig, api.ErrSign, "text of %d bytes, %d of them", len(msg), at)
		}
	}
}

// What another signed is not right: of another name, another seed, another leaf's text, another height.
func TestP603Others(t *testing.T) {
	msg, s := []byte("abc"), ordinary(3)
	p := s.public(t)
	for i := range 16 {
		other := s
		other.name[i] ^= 1 << (i % 8)
		test(t, p, msg, other.sign(t, 5, msg), api.ErrSign, "byte %d of the name turned", i)
	}
	for i := range 32 {
		other := s
		other.seed[i] ^= 1 << (i % 8)
		test(t, p, msg, other.sign(t, 5, msg), api.ErrSign, "byte %d of the seed turned", i)
	}
	for q := range 8 {
		sig := s.sign(t, q, []byte{byte(q)})
		for k := range 8 {
			want := api.ErrSign
			if k == q {
				want = api.OK
			}
			test(t, p, []byte{byte(k)}, sig, want, "leaf %d, text %d", q, k)
		}
	}
}

func TestP2HandedIn(t *testing.T) {
	for _, s := range []signer{ordinary(1), ordinary(3)} {
		for _, text := range texts() {
			msg, allMsg := roomy(text)
			sig, allSig := roomy(s.sign(t, 1, msg))
			p, allP := roomy(s.public(t))
			was := slices.Concat(allMsg, allSig, allP)
			test(t, p, msg, sig, api.OK, "%v, text of %d bytes", s, len(text))
			test(t, p, msg, sig[:4300], api.ErrSign, "%v, path in the spare room", s)
			test(t, p[:55], msg, sig, api.ErrBad, "%v, key cut", s)
			test(t, p, msg[:0], sig[:len(sig)-1], api.ErrSign, "%v, all cut", s)
			if !bytes.Equal(was, slices.Concat(allMsg, allSig, allP)) {
				t.Fatalf("%v, text of %d bytes: what was handed in has changed", s, len(text))
			}
		}
	}
}

func TestP2Kept(t *testing.T) {
	s, msg := ordinary(2), []byte("abc")
	sig, p := s.sign(t, 1, msg), s.public(t)
	was := slices.Clone(sig)
	clear(msg)
	if !bytes.Equal(sig, was) {
		t.Error("a signature hangs on the text that was handed in")
	}
	clear(p[:cap(p)])
	clear(sig[:cap(sig)])
	if hexOf(s.public(t)) != fixed[2].public || !bytes.Equal(s.sign(t, 1, []byte("abc")), was) {
		t.Error("answers share memory")
	}
}

func TestP3SameAgain(t *testing.T) {
	s, msg := ordinary(4), []byte("abc")
	p, sig := s.public(t), s.sign(t, 9, msg)
	for _, other := range []signer{{h: 5}, {full[[16]byte](0xFF), full[api.Id](0xFF), 1}, ordinary(9)} {
		Public(other.name, other.seed, other.h)
		Sign(other.name, other.seed, other.h, 1, nil)
		Sign(other.name, other.seed, other.h, -1, nil)
		Check(nil, nil, nil)
		Check(p, nil, sig)
	}
	// One leaf signs as often as it is asked to, and each time alike.
	if !bytes.Equal(s.public(t), p) || !bytes.Equal(s.sign(t, 9, msg), sig) {
		t.Error("the same calls answer otherwise")
	}
	test(t, p, msg, sig, api.OK, "again")
}

func FuzzP601Sign(f *testing.F) {
	f.Add([]byte("name"), []byte("seed"), 1, 1, []byte("abc"))
	f.Add([]byte{}, []byte{}, 3, 8, []byte{})
	f.Add([]byte{}, []byte{}, 6, 0, []byte{})
	f.Fuzz(func(t *testing.T, name, seed []byte, h, q int, msg []byte) {
		s := signer{h: h}
		copy(s.name[:], name)
		copy(s.seed[:], seed)
		p, e := Public(s.name, s.seed, h)
		sig, e2 := Sign(s.name, s.seed, h, q, msg)
		if h < 1 || h > 5 {
			if e != api.ErrArg || e2 != api.ErrArg || len(p)+len(sig) > 0 {
				t.Fatalf("height %d: %v, %v", h, e, e2)
			}
			return
		}
		nodes := wantNodes(s)
		if want := four(h) + four(2) + hexOf(s.name[:]) + nodes[1]; e != api.OK || hexOf(p) != want {
			t.Fatalf("%v: %x, %v, not %s", s, p, e, want)
		}
		if q < 0 || q >= 1<<h {
			if e2 != api.ErrSpent || len(sig) > 0 {
				t.Fatalf("height %d, leaf %d: %v", h, q, e2)
			}
			return
		}
		if e2 != api.OK || hexOf(sig) != wantSign(s, nodes, q, msg) {
			t.Fatalf("%v, leaf %d, text %q: another signature, %v", s, q, msg, e2)
		}
		if e := Check(p, msg, sig); e != api.OK {
			t.Fatalf("%v, leaf %d, text %q: %v", s, q, msg, e)
		}
	})
}

func FuzzP602Check(f *testing.F) {
	for _, x := range fixed {
		sig, _ := Sign(x.signer.name, x.signer.seed, x.signer.h, x.q, []byte(x.text))
		f.Add(unhex(x.public), []byte(x.text), sig)
	}
	f.Add([]byte{}, []byte{}, []byte{})
	f.Fuzz(func(t *testing.T, public, msg, sig []byte) {
		if got, want := Check(public, msg, sig), wantCheck(public, msg, sig); got != want {
			t.Fatalf("key %x, text %q, %d bytes of signature: %v, not %v", public, msg, len(sig), got, want)
		}
	})
}

func BenchmarkPublic(b *testing.B) {
	s := ordinary(5)
	for b.Loop() {
		Public(s.name, s.seed, s.h)
	}
}

func BenchmarkCheck(b *testing.B) {
	s := ordinary(5)
	p, _ := Public(s.name, s.seed, s.h)
	sig, _ := Sign(s.name, s.seed, s.h, 9, nil)
	for b.Loop() {
		Check(p, nil, sig)
	}
}
