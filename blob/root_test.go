package blob

import (
	"bytes"
	"fmt"
	"math"
	"math/rand"
	"slices"
	"strings"
	"testing"

	"lattice/api"
)

// aPublic is a key's bytes, no two of them the same.
func aPublic() []byte {
	b := make([]byte, 56)
	for i := range b {
		b[i] = byte(0x80 + i)
	}
	return b
}

const publicDigits = "808182838485868788898a8b8c8d8e8f909192939495969798999a9b9c9d9e9fa0a1a2a3a4a5a6a7a8a9aaabacadaeafb0b1b2b3b4b5b6b7"

// sigOf is a signature of so many bytes.
func sigOf(length int) []byte {
	b := make([]byte, length)
	for i := range b {
		b[i] = byte(i*3 + 1)
	}
	return b
}

func aRoot() api.Root {
	return api.Root{Public: aPublic(), Version: 7, Node: idOf(steps), Sig: sigOf(5)}
}

// edgeVersions are numbers round those at which a byte more is needed, or a sign would turn.
var edgeVersions = []int{1, 2, 127, 128, 255, 256, 257, 32767, 32768, 65535, 65536, 1<<24 - 1, 1 << 24, 0x01020304, 1 << 30, 1<<31 - 2, 1<<31 - 1}

// wrongVersions are out of bounds; of some, their low bytes are not.
var wrongVersions = []int{0, -1, -2, -1 << 31, math.MinInt, 1 << 31, 1<<31 + 1, 1<<32 - 1, 1 << 32, 1<<32 + 1, 1 << 40, math.MaxInt}

func TestP904ClaimWrittenOut(t *testing.T) {
	const mark = "6c617474696365"
	for _, x := range []struct {
		version int
		digits  string
	}{
		{0, "00000000"}, {1, "00000001"}, {2, "00000002"}, {255, "000000ff"}, {256, "00000100"}, {258, "00000102"},
		{0x12345678, "12345678"}, {1<<31 - 1, "7fffffff"}, {1 << 31, "80000000"}, {1<<32 - 1, "ffffffff"},
		{1 << 32, "00000000"}, {1<<32 + 1, "00000001"}, {1<<40 + 1<<31 + 5, "80000005"}, {0x123456789a, "3456789a"}, {math.MaxInt, "ffffffff"},
		{-1, "ffffffff"}, {-2, "fffffffe"}, {-256, "ffffff00"}, {-1 << 31, "80000000"}, {-1<<31 - 1, "7fffffff"}, {-1 << 32, "00000000"}, {-1<<32 + 1, "00000001"}, {math.MinInt, "00000000"}, {math.MinInt + 7, "00000007"},
	} {
		for _, node := range []string{zeros, steps, back} {
			if b := Claim(x.version, idOf(node)); fmt.Sprintf("%x", b) != mark+x.digits+node {
				t.Errorf("%d: %x", x.version, b)
			}
		}
	}
}

func TestP904ClaimModulo(t *testing.T) {
	r := rand.New(rand.NewSource(904))
	for range 5000 {
		version := int(r.Uint64()) >> r.Intn(64)
		rest := ((version % (1 << 32)) + 1<<32) % (1 << 32)
		want := fmt.Sprintf("lattice%s%s", raw(fmt.Sprintf("%08x", rest)), raw(back))
		if b := Claim(version, idOf(back)); string(b) != want {
			t.Fatalf("%d: %x", version, b)
		}
	}
}

func TestP904WrittenOut(t *testing.T) {
	for digits, r := range map[string]api.Root{
		"72" + publicDigits + "00000001" + steps + "0000":                             {Public: aPublic(), Version: 1, Node: idOf(steps)},
		"72" + publicDigits + "00000102" + back + "0001 ff":                           {Public: aPublic(), Version: 258, Node: idOf(back), Sig: []byte{255}},
		"72" + publicDigits + "7fffffff" + zeros + "0003 736967":                      {Public: aPublic(), Version: 1<<31 - 1, Sig: []byte("sig")},
		"72" + strings.Repeat("00", 56) + "12345678" + steps + "0002 0000":            {Public: make([]byte, 56), Version: 0x12345678, Node: idOf(steps), Sig: make([]byte, 2)},
		"72" + publicDigits + "00000100" + steps + "0100" + strings.Repeat("7a", 256): {Public: aPublic(), Version: 256, Node: idOf(steps), Sig: bytes.Repeat([]byte("z"), 256)},
		"72" + publicDigits + "00ffffff" + back + "1388" + strings.Repeat("61", 5000): {Public: aPublic(), Version: 1<<24 - 1, Node: idOf(back), Sig: bytes.Repeat([]byte("a"), 5000)},
	} {
		b, e := Root(r)
		tryWritten(t, r, b, e, digits, api.OK)
		got, e := ParseRoot(raw(digits))
		tryRead(t, b, flatRoot(got), e, flatRoot(r), api.OK)
	}
}

func TestP904Publics(t *testing.T) {
	for _, length := range []int{0, 1, 32, 54, 55, 56, 57, 58, 112, 255, 256, 312, 5000} {
		r := aRoot()
		r.Public = bytes.Repeat([]byte{9}, length)
		want := api.ErrArg
		if length == 56 {
			want = api.OK
		}
		if b, e := Root(r); e != want || (len(b) > 0) != (e == api.OK) {
			t.Errorf("%d: %v", length, e)
		}
		tryRoot(t, r)
	}
	r := aRoot()
	r.Public = nil
	if _, e := Root(r); e != api.ErrArg {
		t.Error(e)
	}
}

func TestP904Versions(t *testing.T) {
	for _, version := range edgeVersions {
		r := aRoot()
		r.Version = version
		if _, e := Root(r); e != api.OK {
			t.Errorf("%d: %v", version, e)
		}
		tryRoot(t, r)
	}
	for _, version := range wrongVersions {
		r := aRoot()
		r.Version = version
		b, e := Root(r)
		tryWritten(t, version, b, e, "", api.ErrArg)
	}
}

func TestP904Sigs(t *testing.T) {
	for _, length := range []int{0, 1, 2, 255, 256, 257, 4292, 4998, 4999, 5000, 5001, 5002, 6000, 65535, 65536, 65537, 70000} {
		r := aRoot()
		r.Sig = sigOf(length)
		want := api.OK
		if length > 5000 {
			want = api.ErrLong
		}
		b, e := Root(r)
		if e != want || e == api.OK && len(b) != 95+length || e != api.OK && len(b) != 0 {
			t.Errorf("%d: %d, %v", length, len(b), e)
		}
		tryRoot(t, r)
	}
}

func TestP904SeveralErrors(t *testing.T) {
	for _, public := range []int{0, 55, 56, 57} {
		for _, version := range slices.Concat(edgeVersions, wrongVersions) {
			for _, length := range []int{0, 1, 5000, 5001} {
				tryRoot(t, api.Root{Public: sigOf(public), Version: version, Node: nth(version), Sig: sigOf(length)})
			}
		}
	}
	r := api.Root{Public: aPublic(), Version: 0, Sig: sigOf(5001)}
	if _, e := Root(r); e != api.ErrArg {
		t.Error(e)
	}
	r.Version = 1
	if _, e := Root(r); e != api.ErrLong {
		t.Error(e)
	}
	r.Public = r.Public[:55]
	if _, e := Root(r); e != api.ErrArg {
		t.Error(e)
	}
}

func TestP904ParseRefuses(t *testing.T) {
	head := "72" + publicDigits
	other := "71" + publicDigits
	for _, x := range []struct {
		digits string
		want   api.Errno
	}{
		{"", api.ErrCut},
		{"72", api.ErrCut},
		{"00", api.ErrCut},
		{other + "00000000" + steps + "ff", api.ErrCut},
		{head + "00000001" + steps, api.ErrCut},
		{head + "00000001" + steps + "00", api.ErrCut},
		{head + "00000000" + steps + "13", api.ErrCut},
		{head + "00000001" + steps + "0000", api.OK},
		{head + "7fffffff" + steps + "0000", api.OK},
		{head + "00000001" + steps + "0000 00", api.ErrMore},
		{head + "00000001" + steps + "0001", api.ErrCut},
		{head + "00000001" + steps + "0001 00", api.OK},
		{head + "00000001" + steps + "0001 0000", api.ErrMore},
		{head + "00000001" + steps + "0100 00", api.ErrCut},
		{head + "00000001" + steps + "0002 00", api.ErrCut},
		{other + "00000001" + steps + "0000", api.ErrBad},
		{other + "00000001" + steps + "0000 00", api.ErrBad},
		{other + "00000001" + steps + "0001", api.ErrBad},
		{head + "00000000" + steps + "0000", api.ErrBad},
		{head + "00000000" + steps + "0001", api.ErrBad},
		{head + "00000000" + steps + "0000 00", api.ErrBad},
		{head + "80000000" + steps + "0000", api.ErrBad},
		{head + "80000001" + steps + "0000", api.ErrBad},
		{head + "80000000" + steps + "0001", api.ErrBad},
		{head + "ffffffff" + steps + "0000", api.ErrBad},
		{head + "00000001" + steps + "1388", api.ErrCut},
		{head + "00000001" + steps + "1389", api.ErrBad},
		{head + "00000001" + steps + "8000", api.ErrBad},
		{head + "00000001" + steps + "ffff", api.ErrBad},
		{head + "00000001" + steps + "1388" + strings.Repeat("00", 4999), api.ErrCut},
		{head + "00000001" + steps + "1388" + strings.Repeat("00", 5000), api.OK},
		{head + "00000001" + steps + "1388" + strings.Repeat("00", 5001), api.ErrMore},
		{head + "00000001" + steps + "1389" + strings.Repeat("00", 5000), api.ErrBad},
		{head + "00000001" + steps + "1389" + strings.Repeat("00", 5001), api.ErrBad},
		{head + "00000001" + steps + "1389" + strings.Repeat("00", 5002), api.ErrBad},
		{head + "00000001" + steps + "ffff" + strings.Repeat("00", 65535), api.ErrBad},
	} {
		b := raw(x.digits)
		r, e := ParseRoot(b)
		if e != x.want || e != api.OK && (len(r.Public) != 0 || r.Version != 0 || r.Node != api.Id{} || len(r.Sig) != 0) {
			t.Errorf("%.220s: %v, not %v", x.digits, e, x.want)
		}
		tryParseRoot(t, b)
	}
}

func TestP904ParseFronts(t *testing.T) {
	for _, length := range []int{0, 1, 5, 300} {
		r := aRoot()
		r.Sig = sigOf(length)
		b, e := Root(r)
		if e != api.OK {
			t.Fatal(e)
		}
		for k := range b {
			if r, e := ParseRoot(b[:k]); e != api.ErrCut || len(r.Public) != 0 || r.Version != 0 || r.Node != (api.Id{}) || len(r.Sig) != 0 {
				t.Errorf("%d: %v, %v", k, r, e)
			}
		}
		tryFronts(t, b, tryParseRoot)
		b[0]++
		tryFronts(t, b, tryParseRoot)
	}
}

func TestP904ParseEveryByte(t *testing.T) {
	b, e := Root(aRoot())
	if e != api.OK {
		t.Fatal(e)
	}
	tryEveryByte(t, b, tryParseRoot)
}

// A length that says more or less than there is.
func TestP904ParseLengths(t *testing.T) {
	head := raw("72" + publicDigits + "00000009" + back)
	for _, said := range []int{0, 1, 2, 3, 255, 256, 257, 4999, 5000, 5001, 5002, 65535} {
		for _, there := range []int{0, 1, 2, 3, 255, 256, 257, 4998, 4999, 5000, 5001, 5002} {
			b := slices.Concat(head, []byte{byte(said >> 8), byte(said)}, sigOf(there))
			want := api.OK
			switch {
			case said > 5000:
				want = api.ErrBad
			case there < said:
				want = api.ErrCut
			case there > said:
				want = api.ErrMore
			}
			if _, e := ParseRoot(b); e != want {
				t.Errorf("%d, %d: %v, not %v", said, there, e, want)
			}
			tryParseRoot(t, b)
		}
	}
}

// Nobody asks what a key or a signature says.
func TestP904AnyKey(t *testing.T) {
	r := rand.New(rand.NewSource(905))
	for range 2000 {
		x := api.Root{Public: make([]byte, 56), Version: 1 + r.Intn(1<<31-1), Sig: make([]byte, r.Intn(300))}
		r.Read(x.Public)
		r.Read(x.Node[:])
		r.Read(x.Sig)
		tryRoot(t, x)
		digits, _ := saidRoot(x)
		tryParseRoot(t, raw(digits))
	}
}
