package ots

import (
	"bytes"
	"crypto/sha256"
	"encoding/hex"
	"fmt"
	"math"
	"math/big"
	"math/rand"
	"slices"
	"strings"
	"testing"

	"lattice/api"
)

// key is what a leaf's signatures hang on.
type key struct {
	name [16]byte
	q    int
	seed api.Id
}

func (k key) String() string { return fmt.Sprintf("name %x, q %d, seed %x", k.name, k.q, k.seed) }

func (k key) public() api.Id { return Public(k.name, k.q, k.seed) }

func (k key) sign(msg []byte) []byte { return Sign(k.name, k.q, k.seed, msg) }

func (k key) back(msg, sig []byte) (api.Id, api.Errno) { return Back(k.name, k.q, msg, sig) }

func full[A [16]byte | api.Id](b byte) A {
	var a A
	for i := range len(a) {
		a[i] = b
	}
	return a
}

func rising[A [16]byte | api.Id]() A {
	var a A
	for i := range len(a) {
		a[i] = byte(i)
	}
	return a
}

var (
	leaves = []int{
		0, 1, 2, 31, 255, 256, 65535, 65536, 1<<24 - 1, 1 << 24, 1<<31 - 1, 1 << 31, 1<<32 - 1, 1 << 32, 1<<32 + 1,
		1<<40 + 7, math.MaxInt, -1, -2, -1 << 31, -1<<32 - 1, -1 << 32, -1<<32 + 1, -1 << 50, math.MinInt, math.MinInt + 9,
	}
	nameEdges = [][16]byte{{}, full[[16]byte](0xFF), rising[[16]byte](), {0: 1}, {15: 1}, {0: 0x80, 7: 'n'}}
	seedEdges = []api.Id{{}, full[api.Id](0xFF), rising[api.Id](), {0: 1}, {31: 1}, {15: 0x80}}
	ordinary  = key{rising[[16]byte](), 7, rising[api.Id]()}
)

// edges are keys of each edge beside ordinary ones, and of all edges at once.
func edges() []key {
	var l []key
	for _, q := range leaves {
		l = append(l, key{ordinary.name, q, ordinary.seed})
	}
	for _, n := range nameEdges {
		for _, s := range seedEdges {
			for _, q := range []int{0, 1<<32 - 1, 5} {
				l = append(l, key{n, q, s})
			}
		}
	}
	return l
}

// number is the chapter's N4, N2, N1: a number's bytes in hexadecimal digits.
func number(n, size int) string {
	all := new(big.Int).Lsh(big.NewInt(1), uint(8*size))
	return fmt.Sprintf("%0*x", 2*size, new(big.Int).Mod(big.NewInt(int64(n)), all))
}

// wantHash is the hash of rows in hexadecimal digits, one behind the other.
func wantHash(l ...string) string {
	b, err := hex.DecodeString(strings.Join(l, ""))
	if err != nil {
		panic(err)
	}
	return fmt.Sprintf("%x", sha256.Sum256(b))
}

// wantStep is a step of the chapter, or with "ff" an x of a seed.
func wantStep(k key, i int, j, t string) string {
	return wantHash(hexOf(k.name[:]), number(k.q, 4), number(i, 2), j, t)
}

func hexOf(b []byte) string { return fmt.Sprintf("%x", b) }

// wantWay is the four places of chain i: its x, and what is behind each step.
func wantWay(k key, i int) [4]string {
	x := wantStep(k, i, "ff", hexOf(k.seed[:]))
	one := wantStep(k, i, "00", x)
	two := wantStep(k, i, "01", one)
	return [4]string{x, one, two, wantStep(k, i, "02", two)}
}

func wantTop(k key, ends []string) string {
	return wantHash(hexOf(k.name[:]), number(k.q, 4), "8080", strings.Join(ends, ""))
}

func wantPublic(k key) string {
	var ends []string
	for i := range 133 {
		ends = append(ends, wantWay(k, i)[3])
	}
	return wantTop(k, ends)
}

// wantDigits is a(0) to a(132) of a hash in hexadecimal digits, by its bits as text.
func wantDigits(hash string) []int {
	pairs := func(h string) (l []int) {
		n, _ := new(big.Int).SetString(h, 16)
		bits := fmt.Sprintf("%0*b", 4*len(h), n)
		for at := 0; at < len(bits); at += 2 {
			l = append(l, slices.Index([]string{"00", "01", "10", "11"}, bits[at:at+2]))
		}
		return l
	}
	check := 0
	for _, d := range pairs(hash) {
		check += 64 * (3 - d)
	}
	return pairs(hash + number(check, 2))[:133]
}

func wantA(k key, c string, msg []byte) []int {
	return wantDigits(wantHash(hexOf(k.name[:]), number(k.q, 4), "8181", c, hexOf(msg)))
}

func wantSign(k key, msg []byte) string {
	c := wantStep(k, 0xFFFD, "ff", hexOf(k.seed[:]))
	sig := "00000002" + c
	for i, a := range wantA(k, c, msg) {
		sig += wantWay(k, i)[a]
	}
	return sig
}

// wantBack is what Back is to answer of a signature of the right length and type.
func wantBack(k key, msg, sig []byte) string {
	var ends []string
	for i, a := range wantA(k, hexOf(sig[4:36]), msg) {
		z := hexOf(sig[36+32*i : 68+32*i])
		for ; a < 3; a++ {
			z = wantStep(k, i, number(a, 1), z)
		}
		ends = append(ends, z)
	}
	return wantTop(k, ends)
}

// texts have the edges' lengths: about multiples of 64, alone and with the 54 bytes that stand ahead of a text in its hash.
func texts() [][]byte {
	var l [][]byte
	for _, n := range []int{0, 1, 2, 3, 9, 10, 11, 32, 63, 64, 65, 66, 73, 74, 75, 127, 128, 129, 137, 138, 139, 191, 192, 193, 1000, 6000} {
		b := make([]byte, n)
		for i := range b {
			b[i] = byte(i*7 + n)
		}
		l = append(l, b)
	}
	return append(l, []byte("\x00"), []byte("\xff"), bytes.Repeat([]byte{0}, 64), bytes.Repeat([]byte{0xFF}, 64))
}

// roomy is a row with marked spare room, enough for a signature; whole is all of it.
func roomy(b []byte) (row, whole []byte) {
	whole = append(slices.Clone(b), bytes.Repeat([]byte{0xA5}, 5000)...)
	return whole[:len(b)], whole
}

// fixed holds answers that were worked out outside of this program.
var fixed = []struct {
	key          key
	text         string
	public       string
	salt, sigSum string // the sum is SHA-256 of the whole signature
}{
	{
		key{}, "",
		"2c28b9a02449e0b5ecbd09e395168c0304e17a34412a7228713965156200391f",
		"bb4d7bb5b7c9b6b916cb91349bda6d1d98f1817d25b7749efc2fa26652eaefdf",
		"8984e6bfc26ac70340fc8ff90272836df9034c80b4db29a6d578391781ff4646",
	},
	{
		key{full[[16]byte](0xFF), -1, full[api.Id](0xFF)}, "\xff",
		"0180a530f388b01bbc730c148a6317a728b57b9b9db5cc361a5ccb8d6d1085b0",
		"6d1e52fe06d8b53b8e389e6373d23c6bb2cd0628fe1393d4eb55429406f3e033",
		"d705efe56cf0a2e10f550979371389cce1607a209ed895463b8000e3de495c03",
	},
	{
		ordinary, "abc",
		"4bff1c99bae907f70d0afa46b84df7c6413f916ae3d14c86dd20995811998e03",
		"668dd06e1aa201e59fa778d3e345f60c92858ae266c1f6b528658d7305b1a481",
		"c4009d6ac479a6e8972b95ef9679e7e55b25979c7d7ba9c9daa7b836063ae90d",
	},
	{
		key{ordinary.name, 1<<32 + 7, ordinary.seed}, strings.Repeat("a", 64),
		"4bff1c99bae907f70d0afa46b84df7c6413f916ae3d14c86dd20995811998e03",
		"668dd06e1aa201e59fa778d3e345f60c92858ae266c1f6b528658d7305b1a481",
		"653677e0df4cf35ded70b1f6a45aae9cc6822ef65518a175ac7ded16af5a2d86",
	},
}

func TestP501Fixed(t *testing.T) {
	for _, f := range fixed {
		if got := f.key.public(); hexOf(got[:]) != f.public {
			t.Errorf("%v: %x, not %s", f.key, got, f.public)
		}
	}
}

func TestP501Public(t *testing.T) {
	for _, k := range edges() {
		if got := k.public(); hexOf(got[:]) != wantPublic(k) {
			t.Errorf("%v: %x, not %s", k, got, wantPublic(k))
		}
	}
}

func TestP501LeafModulo(t *testing.T) {
	for _, q := range leaves {
		a := Public(ordinary.name, q, ordinary.seed)
		for _, other := range []int{q + 1<<32, q - 1<<32, q & (1<<32 - 1)} {
			if b := Public(ordinary.name, other, ordinary.seed); a != b {
				t.Errorf("%d and %d: %x and %x", q, other, a, b)
			}
		}
	}
}

// Each byte of a name, a leaf's number and a seed counts.
func TestP501Unlike(t *testing.T) {
	seen := map[api.Id]key{ordinary.public(): ordinary}
	add := func(k key) {
		p := k.public()
		if was, is := seen[p]; is {
			t.Errorf("%v and %v have one public key", k, was)
		}
		seen[p] = k
	}
	for i := range 16 {
		k := ordinary
		k.name[i] ^= 0x10
		add(k)
	}
	for i := range 32 {
		k := ordinary
		k.seed[i] ^= 0x10
		add(k)
		k = ordinary
		k.q ^= 1 << i
		add(k)
	}
}

func TestP502Fixed(t *testing.T) {
	for _, f := range fixed {
		sig := f.key.sign([]byte(f.text))
		if len(sig) != 4292 {
			t.Fatalf("%v: %d bytes", f.key, len(sig))
		}
		if got := hexOf(sig[:36]); got != "00000002"+f.salt {
			t.Errorf("%v: begins with %s, not with 00000002%s", f.key, got, f.salt)
		}
		if got := fmt.Sprintf("%x", sha256.Sum256(sig)); got != f.sigSum {
			t.Errorf("%v: sum %s, not %s", f.key, got, f.sigSum)
		}
	}
}

// The document's example.
func TestP502Example(t *testing.T) {
	for _, k := range edges() {
		if got := k.sign([]byte("a text")); len(got) != 4292 {
			t.Errorf("%v: %d bytes", k, len(got))
		}
	}
}

func TestP502Sign(t *testing.T) {
	for _, k := range edges() {
		for _, msg := range []string{"", "abc"} {
			if got := k.sign([]byte(msg)); hexOf(got) != wantSign(k, []byte(msg)) {
				t.Errorf("%v, text %q: another signature", k, msg)
			}
		}
	}
	for _, k := range []key{{}, ordinary, {full[[16]byte](0xFF), 1<<32 - 1, full[api.Id](0xFF)}} {
		for _, msg := range texts() {
			if got := k.sign(msg); hexOf(got) != wantSign(k, msg) {
				t.Errorf("%v, text of %d bytes: another signature", k, len(msg))
			}
		}
	}
}

// Of some texts each chain meets each of its four places.
func TestP502Places(t *testing.T) {
	var ways [133][4]string
	for i := range ways {
		ways[i] = wantWay(ordinary, i)
	}
	var met [133][4]bool
	c := wantStep(ordinary, 0xFFFD, "ff", hexOf(ordinary.seed[:]))
	for n := range 300 {
		msg := []byte(number(n, 2))
		sig := hexOf(ordinary.sign(msg))
		for i, a := range wantA(ordinary, c, msg) {
			met[i][a] = true
			if got := sig[72+64*i:][:64]; got != ways[i][a] {
				t.Fatalf("text %s, chain %d: %s, not place %d", msg, i, got, a)
			}
		}
	}
	for i, m := range met[:128] {
		if m != [4]bool{true, true, true, true} {
			t.Errorf("chain %d met only %v", i, m)
		}
	}
}

func TestP502Nil(t *testing.T) {
	if !bytes.Equal(ordinary.sign(nil), ordinary.sign([]byte{})) {
		t.Error("no text and an empty one have unlike signatures")
	}
}

// Hashes that no text is known for: the least and the greatest check, and one digit unlike the others at each place.
func TestP502Digits(t *testing.T) {
	test := func(h api.Id) {
		got := digits(h)
		if want := wantDigits(hexOf(h[:])); !slices.Equal(got[:], want) {
			t.Errorf("%x: %v, not %v", h, got, want)
		}
	}
	for _, b := range []byte{0x00, 0xFF, 0x55, 0xAA, 0x1B} {
		for i := range 32 {
			h := full[api.Id](b)
			test(h)
			for _, x := range []byte{0x01, 0x02, 0x04, 0x08, 0x10, 0x20, 0x40, 0x80} {
				h[i] = b ^ x
				test(h)
			}
		}
	}
	r := rand.New(rand.NewSource(1))
	for range 300 {
		var h api.Id
		r.Read(h[:])
		test(h)
	}
	if a := digits(api.Id{}); !slices.Equal(a[128:], []int{1, 2, 0, 0, 0}) {
		t.Errorf("the greatest check's digits are %v", a[128:])
	}
	if a := digits(full[api.Id](0xFF)); !slices.Equal(a[128:], []int{0, 0, 0, 0, 0}) {
		t.Errorf("the least check's digits are %v", a[128:])
	}
}

func testRefused(t *testing.T, sig []byte, what string) {
	t.Helper()
	for _, msg := range [][]byte{nil, []byte("abc")} {
		if got, e := ordinary.back(msg, sig); e != api.ErrSign || got != (api.Id{}) {
			t.Errorf("%s: %x, %v", what, got, e)
		}
	}
}

func TestP503Lengths(t *testing.T) {
	good := ordinary.sign([]byte("abc"))
	long := append(slices.Concat(good, good, good), 0, 0, 0, 2)
	for n := range len(long) + 1 {
		if n != 4292 {
			testRefused(t, long[:n], fmt.Sprintf("%d bytes", n))
		}
	}
	testRefused(t, nil, "no bytes")
	testRefused(t, make([]byte, 4291), "4291 zeros")
	testRefused(t, make([]byte, 4293), "4293 zeros")
	// What lies in the spare room is none of a signature's bytes.
	testRefused(t, good[:4291:4292], "a byte in the spare room")
	testRefused(t, good[:0], "all in the spare room")
}

func TestP503Types(t *testing.T) {
	good := ordinary.sign([]byte("abc"))
	for at := range 4 {
		for b := range 256 {
			if sig := slices.Clone(good); int(sig[at]) != b {
				sig[at] = byte(b)
				testRefused(t, sig, fmt.Sprintf("byte %d is %d", at, b))
			}
		}
	}
	for _, head := range []string{"\x02\x00\x00\x00", "\x00\x00\x02\x00", "\x00\x00\x00\x00", "\xff\xff\xff\xff", "\x01\x00\x00\x01"} {
		testRefused(t, append([]byte(head), good[4:]...), fmt.Sprintf("begins with %x", head))
	}
	testRefused(t, append([]byte{0, 0, 0, 1}, good[5:]...), "another type and length")
}

// Any bytes behind the type are a signature, by one public key or another.
func TestP503Back(t *testing.T) {
	r := rand.New(rand.NewSource(2))
	for n, k := range edges() {
		msg := make([]byte, n)
		r.Read(msg)
		sig := make([]byte, 4292)
		switch n % 3 {
		case 0:
			r.Read(sig)
		case 1:
			sig = bytes.Repeat([]byte{0xFF}, 4292)
		}
		copy(sig, "\x00\x00\x00\x02")
		if got, e := k.back(msg, sig); hexOf(got[:]) != wantBack(k, msg, sig) || e != api.OK {
			t.Errorf("%v: %x, %v, not %s", k, got, e, wantBack(k, msg, sig))
		}
	}
}

func TestP503Turned(t *testing.T) {
	msg := []byte("abc")
	good := ordinary.sign(msg)
	for _, at := range []int{4, 20, 35, 36, 50, 67, 68, 4259, 4260, 4275, 4291} {
		sig := slices.Clone(good)
		sig[at] ^= 1
		if got, e := ordinary.back(msg, sig); hexOf(got[:]) != wantBack(ordinary, msg, sig) || e != api.OK {
			t.Errorf("byte %d turned: %x, %v", at, got, e)
		}
	}
}

func TestP504Back(t *testing.T) {
	for _, k := range edges() {
		p := k.public()
		for _, msg := range []string{"", "a", "a longer text, that does not go into one piece of sixty-four bytes"} {
			if got, e := k.back([]byte(msg), k.sign([]byte(msg))); got != p || e != api.OK {
				t.Errorf("%v, text %q: %x, %v, not %x", k, msg, got, e, p)
			}
		}
	}
	p := ordinary.public()
	for _, msg := range texts() {
		if got, e := ordinary.back(msg, ordinary.sign(msg)); got != p || e != api.OK {
			t.Errorf("text of %d bytes: %x, %v, not %x", len(msg), got, e, p)
		}
	}
}

// testOther asks for a public key that is not the ordinary one.
func testOther(t *testing.T, k key, msg, sig []byte, what string) {
	t.Helper()
	if got, e := k.back(msg, sig); hexOf(got[:]) == fixed[2].public || e != api.OK {
		t.Errorf("%s: %x, %v", what, got, e)
	}
}

func TestP504OtherText(t *testing.T) {
	for _, text := range texts() {
		if len(text) > 200 {
			continue
		}
		sig := ordinary.sign(text)
		for i := range text {
			other := slices.Clone(text)
			other[i] ^= 1 << (i % 8)
			testOther(t, ordinary, other, sig, fmt.Sprintf("byte %d of %d turned", i, len(text)))
			testOther(t, ordinary, text[:i], sig, fmt.Sprintf("%d bytes of %d", i, len(text)))
		}
		for _, more := range []string{"\x00", "\x80", "x", strings.Repeat("\x00", 64)} {
			testOther(t, ordinary, append(slices.Clone(text), more...), sig, fmt.Sprintf("%q behind %d bytes", more, len(text)))
		}
	}
}

func TestP504OtherKey(t *testing.T) {
	msg := []byte("abc")
	sig := ordinary.sign(msg)
	for i := range 16 {
		k := ordinary
		k.name[i] ^= 1
		testOther(t, k, msg, sig, fmt.Sprintf("byte %d of the name turned", i))
	}
	for i := range 32 {
		k := ordinary
		k.q ^= 1 << i
		testOther(t, k, msg, sig, fmt.Sprintf("leaf %d", k.q))
		k = ordinary
		k.seed[i] ^= 1
		testOther(t, ordinary, msg, k.sign(msg), fmt.Sprintf("byte %d of the seed turned", i))
	}
	for _, q := range leaves {
		if k := (key{ordinary.name, q, ordinary.seed}); uint32(q) != 7 {
			testOther(t, k, msg, sig, fmt.Sprintf("leaf %d", q))
		}
	}
	for _, q := range []int{7 + 1<<32, 7 - 1<<32, 7 + 1<<50} {
		if got, e := Back(ordinary.name, q, msg, sig); got != ordinary.public() || e != api.OK {
			t.Errorf("leaf 7 as %d: %x, %v", q, got, e)
		}
	}
}

// A signature turned at any byte is refused or leads to another public key.
func TestP504Turned(t *testing.T) {
	msg := []byte("abc")
	p := ordinary.public()
	sig := ordinary.sign(msg)
	for at := range sig {
		sig[at] ^= 1 << (at % 8)
		got, e := ordinary.back(msg, sig)
		if at < 4 && (e != api.ErrSign || got != api.Id{}) || at >= 4 && (e != api.OK || got == p) {
			t.Errorf("byte %d turned: %x, %v", at, got, e)
		}
		sig[at] ^= 1 << (at % 8)
	}
}

// Who goes on along a chain that a signature shows gets no signature of another text.
func TestP504GoneOn(t *testing.T) {
	msg, p := []byte("abc"), ordinary.public()
	good := ordinary.sign(msg)
	c := hexOf(good[4:36])
	for i, a := range wantA(ordinary, c, msg) {
		if a == 3 {
			continue
		}
		sig := slices.Clone(good)
		z, _ := hex.DecodeString(wantStep(ordinary, i, number(a, 1), hexOf(good[36+32*i:][:32])))
		copy(sig[36+32*i:], z)
		if got, e := ordinary.back(msg, sig); got == p || e != api.OK {
			t.Errorf("chain %d gone on: %x, %v", i, got, e)
		}
	}
}

func TestP2HandedIn(t *testing.T) {
	for _, text := range texts() {
		msg, allMsg := roomy(text)
		wasMsg := slices.Clone(allMsg)
		good := ordinary.sign(msg)
		sig, allSig := roomy(good)
		wasSig := slices.Clone(allSig)
		ordinary.back(msg, sig)
		ordinary.back(msg, sig[:100])
		if !bytes.Equal(allMsg, wasMsg) || !bytes.Equal(allSig, wasSig) {
			t.Fatalf("text of %d bytes: what was handed in has changed", len(text))
		}
		for i := range allMsg {
			allMsg[i] ^= 0xFF
		}
		if !bytes.Equal(good, ordinary.sign(text)) {
			t.Errorf("text of %d bytes: the signature hangs on what was handed in", len(text))
		}
	}
}

func TestP2Answers(t *testing.T) {
	msg := []byte("abc")
	a := ordinary.sign(msg)
	want := slices.Clone(a)
	b := ordinary.sign(msg)
	for i := range a[:cap(a)] {
		a[:cap(a)][i] ^= 0xFF
	}
	if !bytes.Equal(b, want) || !bytes.Equal(ordinary.sign(msg), want) {
		t.Error("two signatures share memory")
	}
	// Nor does a signature share any with a text that is one itself.
	whole := ordinary.sign(b)
	is := slices.Clone(whole)
	clear(b)
	if !bytes.Equal(whole, is) {
		t.Error("a signature shares memory with its text")
	}
}

func TestP3SameAgain(t *testing.T) {
	msg := []byte("abc")
	p, sig := ordinary.public(), ordinary.sign(msg)
	other := key{full[[16]byte](0xFF), -1, full[api.Id](0xFF)}
	other.public()
	other.sign(nil)
	other.back(nil, nil)
	if ordinary.public() != p || !bytes.Equal(ordinary.sign(msg), sig) {
		t.Error("the same calls answer otherwise")
	}
}

func FuzzP502Sign(f *testing.F) {
	f.Add([]byte("name"), 3, []byte("seed"), []byte("abc"))
	f.Add([]byte{}, -1, []byte{}, []byte{})
	f.Fuzz(func(t *testing.T, name []byte, q int, seed, msg []byte) {
		k := key{q: q}
		copy(k.name[:], name)
		copy(k.seed[:], seed)
		sig := k.sign(msg)
		if hexOf(sig) != wantSign(k, msg) {
			t.Fatalf("%v, text %q: another signature", k, msg)
		}
		if got, e := k.back(msg, sig); got != k.public() || e != api.OK {
			t.Fatalf("%v, text %q: %x, %v", k, msg, got, e)
		}
	})
}

func FuzzP503Back(f *testing.F) {
	f.Add([]byte("name"), 3, []byte("abc"), ordinary.sign([]byte("abc")))
	f.Add([]byte{}, -1, []byte{}, []byte{0, 0, 0, 2})
	f.Fuzz(func(t *testing.T, name []byte, q int, msg, sig []byte) {
		k := key{q: q}
		copy(k.name[:], name)
		got, e := k.back(msg, sig)
		if len(sig) != 4292 || string(sig[:4]) != "\x00\x00\x00\x02" {
			if e != api.ErrSign || got != (api.Id{}) {
				t.Fatalf("%d bytes: %x, %v", len(sig), got, e)
			}
			return
		}
		if hexOf(got[:]) != wantBack(k, msg, sig) || e != api.OK {
			t.Fatalf("%v, text %q: %x, %v", k, msg, got, e)
		}
	})
}

func BenchmarkPublic(b *testing.B) {
	for b.Loop() {
		ordinary.public()
	}
}
