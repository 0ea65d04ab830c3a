package blob

import (
	"fmt"
	"math"
	"slices"
	"testing"

	"lattice/api"
)

// edgeSizes are those at which a level more is asked, and those that another number of bytes would say.
var edgeSizes = []int{0, 1, 2, 63, 64, 65, 127, 128, 255, 256, 257, 511, 512, 513, 999, 1000, 4095, 4096, 4097, 32767, 32768, 32769, 65535, 65536, 1<<18 - 1, 1 << 18, 1<<18 + 1, 1<<20 - 1, 1 << 20}

// wrongSizes are out of bounds; of some, their low bytes are not.
var wrongSizes = []int{-1, -64, -1 << 20, -1 << 31, -1 << 32, math.MinInt, 1<<20 + 1, 1 << 21, 1<<21 + 1, 1 << 24, 1 << 27, 1<<27 + 1, 1<<31 - 1, 1 << 31, 1<<32 - 1, 1 << 32, 1<<32 + 1, 1 << 40, 1 << 62, math.MaxInt}

func TestP901WrittenOut(t *testing.T) {
	for digits, n := range map[string]api.Inode{
		"69 01 00000000 00" + zeros: {Kind: api.File},
		"69 02 00000000 00" + zeros: {Kind: api.Dir},
		"69 01 00000001 00" + steps: {Kind: api.File, Size: 1, Top: idOf(steps)},
		"69 01 00000001 00" + zeros: {Kind: api.File, Size: 1},
		"69 02 00000040 00" + back:  {Kind: api.Dir, Size: 64, Top: idOf(back)},
		"69 02 00000041 01" + back:  {Kind: api.Dir, Size: 65, Levels: 1, Top: idOf(back)},
		"69 01 00000200 01" + steps: {Kind: api.File, Size: 512, Levels: 1, Top: idOf(steps)},
		"69 01 00000201 02" + steps: {Kind: api.File, Size: 513, Levels: 2, Top: idOf(steps)},
		"69 01 00001000 02" + steps: {Kind: api.File, Size: 4096, Levels: 2, Top: idOf(steps)},
		"69 01 00001001 03" + steps: {Kind: api.File, Size: 4097, Levels: 3, Top: idOf(steps)},
		"69 01 00008000 03" + steps: {Kind: api.File, Size: 32768, Levels: 3, Top: idOf(steps)},
		"69 01 00008001 04" + steps: {Kind: api.File, Size: 32769, Levels: 4, Top: idOf(steps)},
		"69 01 00040000 04" + steps: {Kind: api.File, Size: 1 << 18, Levels: 4, Top: idOf(steps)},
		"69 01 00040001 05" + steps: {Kind: api.File, Size: 1<<18 + 1, Levels: 5, Top: idOf(steps)},
		"69 02 000abcde 05" + steps: {Kind: api.Dir, Size: 0xabcde, Levels: 5, Top: idOf(steps)},
		"69 02 00100000 05" + zeros: {Kind: api.Dir, Size: 1 << 20, Levels: 5},
	} {
		b, e := Inode(n)
		tryWritten(t, n, b, e, digits, api.OK)
		got, e := ParseInode(raw(digits))
		tryRead(t, b, got, e, n, api.OK)
	}
}

func TestP901Kinds(t *testing.T) {
	kinds := []int{math.MinInt, math.MaxInt, 1<<32 + 1, 1<<32 + 2, -254, -255, -256}
	for kind := -3; kind <= 600; kind++ {
		kinds = append(kinds, kind)
	}
	for _, kind := range kinds {
		want := api.ErrKind
		if kind == 1 || kind == 2 {
			want = api.OK
		}
		if b, e := Inode(api.Inode{Kind: kind, Size: 9, Top: nth(1)}); e != want || (len(b) == 39) != (want == api.OK) {
			t.Errorf("%d: %x, %v, not %v", kind, b, e, want)
		}
		tryInode(t, api.Inode{Kind: kind})
	}
}

func TestP901Levels(t *testing.T) {
	for _, size := range edgeSizes {
		right := rightLevels(size)
		levels := []int{math.MinInt, math.MaxInt, right - 256, right + 256, right + 1<<32, right - 1<<32, 255}
		for l := -9; l <= 20; l++ {
			levels = append(levels, l)
		}
		for _, l := range levels {
			n := api.Inode{Kind: api.File, Size: size, Levels: l}
			want := api.ErrArg
			if l == right {
				want = api.OK
			}
			if _, e := Inode(n); e != want {
				t.Errorf("%d, %d: %v, not %v", size, l, e, want)
			}
			tryInode(t, n)
		}
	}
}

func TestP901EverySize(t *testing.T) {
	levels, most := 0, 64
	for size := range 1<<20 + 1 {
		if size > most {
			levels, most = levels+1, most*8
		}
		n := api.Inode{Kind: api.Dir, Size: size, Levels: levels}
		b, e := Inode(n)
		if e != api.OK || int(b[6]) != levels {
			t.Fatalf("%d: %x, %v", size, b, e)
		}
		if got, e := ParseInode(b); got != n || e != api.OK {
			t.Fatalf("%d: %+v, %v", size, got, e)
		}
	}
}

func TestP901WrongSizes(t *testing.T) {
	for _, size := range wrongSizes {
		for levels := -1; levels <= 8; levels++ {
			for _, kind := range []int{api.File, api.Dir} {
				b, e := Inode(api.Inode{Kind: kind, Size: size, Levels: levels, Top: nth(3)})
				tryWritten(t, size, b, e, "", api.ErrArg)
			}
		}
	}
}

// A top beside no bytes may not be, whichever of its bytes is not zero; no top beside bytes may.
func TestP901Tops(t *testing.T) {
	for at := range 32 {
		for _, value := range []byte{1, 128, 255} {
			var top api.Id
			top[at] = value
			b, e := Inode(api.Inode{Kind: api.File, Top: top})
			tryWritten(t, top, b, e, "", api.ErrArg)
			for _, size := range edgeSizes {
				tryInode(t, api.Inode{Kind: api.Dir, Size: size, Levels: rightLevels(size), Top: top})
			}
		}
	}
	for _, size := range edgeSizes {
		b, e := Inode(api.Inode{Kind: api.File, Size: size, Levels: rightLevels(size)})
		if e != api.OK || len(b) != 39 {
			t.Errorf("%d: %x, %v", size, b, e)
		}
	}
}

// An inode's faults, some at once.
func TestP901SeveralErrors(t *testing.T) {
	for _, kind := range []int{-1, 0, 1, 2, 3, 257} {
		for _, size := range slices.Concat(edgeSizes, wrongSizes) {
			for levels := -1; levels <= 8; levels++ {
				for _, top := range []api.Id{{}, nth(2)} {
					tryInode(t, api.Inode{Kind: kind, Size: size, Levels: levels, Top: top})
				}
			}
		}
	}
}

// inodes are some, as digits.
func inodes() []string {
	return []string{
		"6901 00000000 00" + zeros,
		"6902 00000009 00" + steps,
		"6901 00000040 00" + back,
		"6902 00000041 01" + zeros,
		"6901 000003e8 02" + steps,
		"6902 00040001 05" + back,
		"6901 00100000 05" + steps,
	}
}

func TestP901ParseRefuses(t *testing.T) {
	for _, x := range []struct {
		digits string
		want   api.Errno
	}{
		{"", api.ErrCut},
		{"69", api.ErrCut},
		{"00", api.ErrCut},
		{"6a", api.ErrCut},
		{"6903", api.ErrCut},
		{"6902 00000000 00" + zeros[2:], api.ErrCut},
		{"6a02 00000000 00" + zeros[2:], api.ErrCut},
		{"6902 00000000 01" + zeros[2:], api.ErrCut},
		{"6902 00000000 00" + zeros, api.OK},
		{"6902 00000000 00" + zeros + "00", api.ErrMore},
		{"6902 00000000 00" + zeros + zeros + zeros, api.ErrMore},
		{"6e02 00000000 00" + zeros, api.ErrBad},
		{"0002 00000000 00" + zeros, api.ErrBad},
		{"4902 00000000 00" + zeros, api.ErrBad},
		{"6e02 00000000 00" + zeros + "00", api.ErrBad},
		{"6900 00000000 00" + zeros, api.ErrBad},
		{"6903 00000000 00" + zeros, api.ErrBad},
		{"69ff 00000000 00" + zeros, api.ErrBad},
		{"6903 00000000 00" + zeros + "00", api.ErrBad},
		{"6901 00000000 00" + steps, api.ErrBad},
		{"6901 00000000 00" + steps + "00", api.ErrBad},
		{"6901 00000000 00" + zeros[2:] + "01", api.ErrBad},
		{"6901 00000000 01" + zeros, api.ErrBad},
		{"6901 00000001 01" + steps, api.ErrBad},
		{"6901 00000040 01" + steps, api.ErrBad},
		{"6901 00000041 00" + steps, api.ErrBad},
		{"6901 00000041 02" + steps, api.ErrBad},
		{"6901 00000041 ff" + steps, api.ErrBad},
		{"6901 00000200 02" + steps, api.ErrBad},
		{"6901 00000201 01" + steps, api.ErrBad},
		{"6901 00100000 04" + steps, api.ErrBad},
		{"6901 00100000 06" + steps, api.ErrBad},
		{"6901 00100001 05" + steps, api.ErrBad},
		{"6901 00200000 05" + steps, api.ErrBad},
		{"6901 01000000 06" + steps, api.ErrBad},
		{"6901 01000001 00" + steps, api.ErrBad},
		{"6901 7fffffff 07" + steps, api.ErrBad},
		{"6901 80000000 00" + steps, api.ErrBad},
		{"6901 80000001 00" + steps, api.ErrBad},
		{"6901 ffffffff 00" + steps, api.ErrBad},
		{"6901 ffffffff 07" + steps, api.ErrBad},
		{"6901 40000000 00" + steps, api.ErrBad}, // the lowest byte first it would be 64
	} {
		n, e := ParseInode(raw(x.digits))
		if e != x.want || e != api.OK && n != (api.Inode{}) {
			t.Errorf("%s: %+v, %v, not %v", x.digits, n, e, x.want)
		}
	}
}

func TestP901ParseFronts(t *testing.T) {
	for _, digits := range inodes() {
		b := raw(digits)
		for k := range b {
			n, e := ParseInode(b[:k])
			tryRead(t, b[:k], n, e, api.Inode{}, api.ErrCut)
		}
		tryFronts(t, b, tryParseInode)
		for _, first := range "\x00Ijmnrx\xff" {
			tryFronts(t, append([]byte{byte(first)}, b[1:]...), tryParseInode)
		}
	}
}

func TestP901ParseEveryByte(t *testing.T) {
	for _, digits := range inodes() {
		tryEveryByte(t, raw(digits), tryParseInode)
	}
}

func TestP901ParseNumbers(t *testing.T) {
	for _, size := range append(edgeSizes, 1<<20+1, 1<<21, 1<<24+1, 1<<31-1, 1<<31, 1<<31+64, 1<<32-64, 1<<32-1) {
		for levels := range 256 {
			b := raw(fmt.Sprintf("6901%08x%02x", size, levels) + steps)
			tryParseInode(t, b)
			_, e := ParseInode(b)
			if may := size > 0 && size <= 1<<20 && levels == rightLevels(size); may != (e == api.OK) {
				t.Fatalf("%d, %d: %v", size, levels, e)
			}
		}
	}
}
