package blob

import (
	"math/rand"
	"slices"
	"strings"
	"testing"

	"lattice/api"
)

// hashes are so many, no two the same.
func hashes(count int) []api.Id {
	var l []api.Id
	for k := range count {
		l = append(l, nth(k+1))
	}
	return l
}

func TestP902Example(t *testing.T) {
	for _, none := range [][]api.Id{nil, {}, make([]api.Id, 0, 5)} {
		b, e := Inner(none)
		tryWritten(t, none, b, e, "", api.ErrArg)
	}
}

func TestP902WrittenOut(t *testing.T) {
	for digits, l := range map[string][]api.Id{
		"6e01" + steps:                       {idOf(steps)},
		"6e01" + zeros:                       {{}},
		"6e02" + back + steps:                {idOf(back), idOf(steps)},
		"6e02" + steps + back:                {idOf(steps), idOf(back)},
		"6e03" + steps + steps + steps:       {idOf(steps), idOf(steps), idOf(steps)},
		"6e08" + strings.Repeat(zeros, 8):    make([]api.Id, 8),
		"6e04" + strings.Repeat(zeros, 4):    make([]api.Id, 4),
		"6e04" + steps + zeros + back + back: {idOf(steps), {}, idOf(back), idOf(back)},
	} {
		b, e := Inner(l)
		tryWritten(t, l, b, e, digits, api.OK)
		got, e := ParseInner(raw(digits))
		tryRead(t, b, got, e, l, api.OK)
	}
}

func TestP902Counts(t *testing.T) {
	for _, count := range []int{0, 1, 2, 3, 4, 5, 6, 7, 8, 9, 10, 16, 255, 256, 257, 264, 1000} {
		l := hashes(count)
		want := api.OK
		if count == 0 {
			want = api.ErrArg
		} else if count > 8 {
			want = api.ErrMany
		}
		b, e := Inner(l)
		if e != want || want == api.OK && len(b) != 2+32*count || want != api.OK && len(b) != 0 {
			t.Errorf("%d: %d, %v, not %v", count, len(b), e, want)
		}
		tryInner(t, l)
	}
}

func TestP902ParseRefuses(t *testing.T) {
	for _, x := range []struct {
		digits string
		want   api.Errno
	}{
		{"", api.ErrCut},
		{"6e", api.ErrCut},
		{"00", api.ErrCut},
		{"ff", api.ErrCut},
		{"6e00", api.ErrBad},
		{"6e01", api.ErrCut},
		{"6e08", api.ErrCut},
		{"6e09", api.ErrBad},
		{"6eff", api.ErrBad},
		{"6f01", api.ErrBad},
		{"6901", api.ErrBad},
		{"0000", api.ErrBad},
		{"016e", api.ErrBad},
		{"6e00" + zeros, api.ErrBad},
		{"6f01" + zeros, api.ErrBad},
		{"6f01" + zeros[2:], api.ErrBad},
		{"6f01" + zeros + "00", api.ErrBad},
		{"6e01" + zeros[2:], api.ErrCut},
		{"6e01" + zeros, api.OK},
		{"6e01" + zeros + "00", api.ErrMore},
		{"6e02" + zeros, api.ErrCut},
		{"6e01" + zeros + zeros, api.ErrMore},
		{"6e09" + strings.Repeat(steps, 9), api.ErrBad},
		{"6e09" + strings.Repeat(steps, 8), api.ErrBad},
		{"6e08" + strings.Repeat(steps, 9), api.ErrMore},
		{"6eff" + strings.Repeat(steps, 255), api.ErrBad},
		{"6eff" + strings.Repeat(steps, 256), api.ErrBad},
	} {
		l, e := ParseInner(raw(x.digits))
		if e != x.want || (len(l) > 0) != (e == api.OK) {
			t.Errorf("%s: %x, %v, not %v", x.digits, l, e, x.want)
		}
	}
}

// Each count, behind each first byte that is near, with each number of bytes behind it.
func TestP902ParseCounts(t *testing.T) {
	room := slices.Concat([]byte{0, 0}, raw(strings.Repeat(steps+back, 5)))
	for _, first := range "nmoN\x00\xee\xff" {
		for _, count := range []int{0, 1, 2, 7, 8, 9, 10, 16, 17, 127, 128, 129, 136, 254, 255} {
			room[0], room[1] = byte(first), byte(count)
			for k := range len(room) + 1 {
				tryParseInner(t, room[:k])
			}
		}
	}
}

func TestP902ParseEveryHead(t *testing.T) {
	for first := range 256 {
		for count := range 256 {
			head := []byte{byte(first), byte(count)}
			tryParseInner(t, head)
			tryParseInner(t, append(head, raw(steps)...))
			tryParseInner(t, append(head, raw(strings.Repeat(steps, 8))...))
		}
	}
}

func TestP902ParseFronts(t *testing.T) {
	for count := 1; count <= 8; count++ {
		b, e := Inner(hashes(count))
		if e != api.OK {
			t.Fatal(e)
		}
		for k := range b {
			l, e := ParseInner(b[:k])
			tryRead(t, b[:k], flat(l), e, []api.Id{}, api.ErrCut)
		}
		for _, more := range []int{1, 31, 32, 33} {
			l, e := ParseInner(append(slices.Clone(b), make([]byte, more)...))
			tryRead(t, b, flat(l), e, []api.Id{}, api.ErrMore)
		}
		tryFronts(t, b, tryParseInner)
		if count < 3 {
			tryEveryByte(t, b, tryParseInner)
		}
	}
}

func TestP905Inner(t *testing.T) {
	r := rand.New(rand.NewSource(902))
	for range 2000 {
		l := make([]api.Id, 1+r.Intn(8))
		for i := range l {
			r.Read(l[i][:])
		}
		tryInner(t, l)
		digits, _ := saidInner(l)
		tryParseInner(t, raw(digits))
	}
}
