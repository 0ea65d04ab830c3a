package ledger

import (
	"bytes"
	"encoding/hex"
	"fmt"
	"math/rand"
	"slices"
	"strconv"
	"strings"
	"testing"

	"lattice/api"
	"lattice/disk"
)

// edges are numbers round those at which a byte more is needed, or a sign would turn.
var edges = []int{1, 2, 127, 128, 254, 255, 256, 257, 65534, 65535, 65536, 1<<24 - 2, 1<<24 - 1, 1 << 24, 1<<31 - 2, 1<<31 - 1, 1 << 31, 1<<31 + 1, 1<<32 - 256, 1<<32 - 3, 1<<32 - 2, 1<<32 - 1}

// raw is the bytes of hexadecimal digits, blanks between them or not.
func raw(digits string) []byte {
	b, err := hex.DecodeString(strings.ReplaceAll(digits, " ", ""))
	if err != nil {
		panic(err)
	}
	return b
}

// rec is a record, said anew: a number and what lacks to all ones, in digits.
func rec(n int) []byte { return raw(fmt.Sprintf("%08x%08x", n, 1<<32-1-n)) }

func recs(l ...int) []byte {
	var b []byte
	for _, n := range l {
		b = append(b, rec(n)...)
	}
	return b
}

// greatestOf is P801's Last, said anew: of digits.
func greatestOf(b []byte) int {
	var l []int
	for digits := fmt.Sprintf("%x", b); len(digits) >= 16; digits = digits[16:] {
		n, _ := strconv.ParseInt(digits[:8], 16, 64)
		turned, _ := strconv.ParseInt(digits[8:16], 16, 64)
		if n+turned == 1<<32-1 {
			l = append(l, int(n))
		}
	}
	slices.Sort(l)
	return append([]int{0}, l...)[len(l)]
}

// rowOf is what P802 writes behind so many bytes, said anew.
func rowOf(there, n int) []byte {
	var b []byte
	for (there+len(b))%8 != 0 {
		b = append(b, 0)
	}
	return append(b, rec(n)...)
}

// made is a disk with bytes that are synced.
func made(t testing.TB, room int, b []byte) *disk.Disk {
	t.Helper()
	d, e := disk.New(room)
	if e != api.OK || d.Append(b) != api.OK || d.Sync() != api.OK {
		t.Fatalf("room %d, %d bytes: %v", room, len(b), e)
	}
	return d
}

func opened(t testing.TB, d *disk.Disk) *Ledger {
	t.Helper()
	l, e := Open(d)
	if e != api.OK || l == nil {
		t.Fatalf("Open: %v, %v", l, e)
	}
	return l
}

// over is a ledger over a disk of those bytes, with that room behind them.
func over(t testing.TB, b []byte, behind int) (*disk.Disk, *Ledger) {
	t.Helper()
	d := made(t, max(len(b)+behind, 1), b)
	return d, opened(t, d)
}

// seen is all that a disk tells.
type seen struct {
	bytes string
	dead  bool
	ops   int
}

func look(d *disk.Disk) seen { return seen{fmt.Sprintf("%x", d.Bytes()), d.Dead(), d.Ops()} }

// asks asks for a number, and holds the answer and Last behind it against what they should be.
func asks(t testing.TB, l *Ledger, n int, e api.Errno, last int) {
	t.Helper()
	if gotN, gotE := l.Next(); gotN != n || gotE != e || l.Last() != last {
		t.Fatalf("Next: %d, %v, Last %d, not %d, %v, %d", gotN, gotE, l.Last(), n, e, last)
	}
}

func gives(t testing.TB, l *Ledger, n int) {
	t.Helper()
	asks(t, l, n, api.OK, n)
}

func refuses(t testing.TB, l *Ledger, e api.Errno) {
	t.Helper()
	asks(t, l, 0, e, l.Last())
}

func TestP802Example(t *testing.T) {
	_, l := over(t, nil, 16)
	gives(t, l, 1)
	gives(t, l, 2)
}

func TestP801WrittenOut(t *testing.T) {
	for digits, want := range map[string]int{
		"":                                                      0,
		"00000001 fffffffe":                                     1,
		"00000001 fffffffe 00000002 fffffffd":                   2,
		"00000002 fffffffd 00000001 fffffffe":                   2,
		"00000007 fffffff8 00000007 fffffff8":                   7,
		"12345678 edcba987":                                     0x12345678,
		"00000100 fffffeff 000000ff ffffff00":                   256,
		"80000000 7fffffff 7fffffff 80000000":                   1 << 31,
		"80000005 7ffffffa 00000001 fffffffe":                   1<<31 + 5,
		"fffffffe 00000001":                                     1<<32 - 2,
		"ffffffff 00000000":                                     1<<32 - 1,
		"00000001 fffffffe ffffffff 00000000 00000002 fffffffd": 1<<32 - 1,
		"00000000 ffffffff":                                     0,
		"00000000 ffffffff 00000003 fffffffc":                   3,
		"00000003 fffffffc 00000000 ffffffff":                   3,
		"00000000 00000000":                                     0,
		"ffffffff ffffffff":                                     0,
		"00000003 fffffffd":                                     0,
		"00000001 00000001":                                     0,
		"fffffffe 00000001 00000001":                            1<<32 - 2,
		"00000001 feffffff":                                     0,
		"00000005 fffffffa 00000009 fffffff7":                   5,
		"00000009 fffffff7 00000005 fffffffa":                   5,
		"00 00000001 fffffffe":                                  0,
		"00000001 fffffffe 00":                                  1,
		"00000001 ffffff":                                       0,
	} {
		if _, l := over(t, raw(digits), 0); l.Last() != want {
			t.Errorf("%s: %d, not %d", digits, l.Last(), want)
		}
	}
}

func TestP801Numbers(t *testing.T) {
	for _, n := range append(edges, 0) {
		if _, l := over(t, rec(n), 0); l.Last() != n {
			t.Errorf("%d: %d", n, l.Last())
		}
	}
	// Each byte of a number takes each value.
	for at := range 4 {
		for value := range 256 {
			n := 0x01020304&^(255<<(8*at)) | value<<(8*at)
			if _, l := over(t, rec(n), 0); l.Last() != n {
				t.Errorf("%08x: %08x", n, l.Last())
			}
		}
	}
}

// With one bit turned 8 bytes say nothing; with that of the other half turned too they are another record.
func TestP801Bits(t *testing.T) {
	for _, n := range append(edges, 0x12345678) {
		for bit := range 64 {
			b := rec(n)
			b[bit/8] ^= 1 << (bit % 8)
			if _, l := over(t, b, 0); l.Last() != 0 {
				t.Errorf("%x: %d", b, l.Last())
			}
			b[(bit/8+4)%8] ^= 1 << (bit % 8)
			if _, l := over(t, b, 0); l.Last() != greatestOf(b) || l.Last() == n {
				t.Errorf("%x: %d, not %d", b, l.Last(), greatestOf(b))
			}
		}
	}
}

func TestP801Orders(t *testing.T) {
	numbers := []int{1, 7, 255, 1 << 31, 0}
	var next func(done, left []int)
	next = func(done, left []int) {
		if _, l := over(t, recs(done...), 0); l.Last() != slices.Max(append([]int{0}, done...)) {
			t.Errorf("%v: %d", done, l.Last())
		}
		for i := range left {
			next(append(slices.Clone(done), left[i]), slices.Delete(slices.Clone(left), i, i+1))
		}
	}
	next(nil, numbers)
}

// Among records stand 8 bytes that say nothing, at each place.
func TestP801NothingBetween(t *testing.T) {
	nothing := []string{"0000000000000000", "ffffffffffffffff", "ffffffff00000001", "fffffffe00000000", "00000000fffffffe", "0000000900000009", "fffffff600000010", "00000009f6ffffff"}
	for _, digits := range nothing {
		for at := range 4 {
			b := slices.Insert(recs(3, 9, 5), 8*at, raw(digits)...)
			if _, l := over(t, b, 0); l.Last() != 9 {
				t.Errorf("%s at %d: %d", digits, at, l.Last())
			}
		}
	}
}

// A record that does not begin at a multiple of 8 is none.
func TestP801Shifted(t *testing.T) {
	for _, n := range []int{1, 9, 0x12345678, 1 << 31, 1<<32 - 2} {
		for shift := range 20 {
			want := 0
			if shift%8 == 0 {
				want = n
			}
			b := append(bytes.Repeat([]byte{'x'}, shift), rec(n)...)
			for _, behind := range []string{"", "x", "xxxxxxxx"} {
				if _, l := over(t, append(b, behind...), 0); l.Last() != want {
					t.Errorf("%x%s: %d, not %d", b, behind, l.Last(), want)
				}
			}
		}
	}
}

// What stands behind the last whole 8 says nothing, the front of a record neither.
func TestP801Tails(t *testing.T) {
	for whole := range 3 {
		for tail := range 8 {
			for _, row := range [][]byte{rec(9), rec(255), rec(1<<32 - 1), make([]byte, 8), []byte("abcdefgh")} {
				b := append(recs(2, 1)[:8*whole], row[:tail]...)
				want := min(2*whole, 2)
				if _, l := over(t, b, 0); l.Last() != want {
					t.Errorf("%x: %d, not %d", b, l.Last(), want)
				}
			}
		}
	}
}

func TestP801SomeBytes(t *testing.T) {
	r := rand.New(rand.NewSource(801))
	for range 20000 {
		var b []byte
		for range r.Intn(6) {
			row := rec(r.Intn(1 << (1 + r.Intn(32))))
			switch r.Intn(8) {
			case 0:
				row[r.Intn(8)] ^= byte(1 + r.Intn(255))
			case 1:
				row = row[:r.Intn(8)]
			}
			b = append(b, row...)
		}
		if _, l := over(t, b, 0); l.Last() != greatestOf(b) {
			t.Fatalf("%x: %d, not %d", b, l.Last(), greatestOf(b))
		}
	}
}

// A crash takes what was not synced, but what was told as the last one is not told as less, whoever calls behind it.
func TestP801LastDoesNotFall(t *testing.T) {
	d, _ := disk.New(100)
	d.Append(recs(3))
	l := opened(t, d)
	for range 3 {
		if d.Crash(0); l.Last() != 3 {
			t.Errorf("behind a crash: %d", l.Last())
		}
		if d.Sync(); l.Last() != 3 {
			t.Errorf("behind a Sync: %d", l.Last())
		}
	}
	gives(t, l, 4)
	gives(t, opened(t, d), 5)
}

// What is there counts, synced or not.
func TestP801NotSynced(t *testing.T) {
	d, _ := disk.New(100)
	d.Append(recs(3))
	if l := opened(t, d); l.Last() != 3 {
		t.Errorf("%d", l.Last())
	}
	d.Append(recs(8)[:5])
	if l := opened(t, d); l.Last() != 3 {
		t.Errorf("%d", l.Last())
	}
	d.Append(recs(8)[5:])
	if l := opened(t, d); l.Last() != 8 {
		t.Errorf("%d", l.Last())
	}
}

func TestP801GreatestDisk(t *testing.T) {
	const room = 1 << 24
	b := make([]byte, 0, room)
	for n := room / 8; n > 0; n-- {
		b = append(b, byte(n>>24), byte(n>>16), byte(n>>8), byte(n), byte(^n>>24), byte(^n>>16), byte(^n>>8), byte(^n))
	}
	d, l := over(t, b, 0)
	if l.Last() != room/8 {
		t.Errorf("falling: %d", l.Last())
	}
	refuses(t, l, api.ErrFull)
	copy(b[room-8:], rec(1<<32-2))
	d = made(t, room, b[8:])
	l = opened(t, d)
	if l.Last() != 1<<32-2 {
		t.Errorf("the last of all: %d", l.Last())
	}
	gives(t, l, 1<<32-1)
	if was := append(b[8:], rec(1<<32-1)...); !bytes.Equal(d.Bytes(), was) {
		t.Errorf("%d bytes", len(d.Bytes()))
	}
}

// Without power there is no ledger, whatever the power went at, and whatever stands there.
func TestP801Dead(t *testing.T) {
	for _, b := range [][]byte{nil, recs(1), recs(1<<32 - 1), []byte("abc")} {
		for _, goes := range []func(d *disk.Disk) api.Errno{(*disk.Disk).Sync, func(d *disk.Disk) api.Errno { return d.Append(recs(7)) }} {
			d := made(t, 100, b)
			d.Stop(1)
			opened(t, d)
			if goes(d) != api.ErrDead {
				t.Fatal("the power did not go")
			}
			was := look(d)
			for range 2 {
				if l, e := Open(d); l != nil || e != api.ErrDead || look(d) != was {
					t.Errorf("%x: %v, %v", b, l, e)
				}
			}
			d.Crash(0)
			if l := opened(t, d); l.Last() != greatestOf(b) {
				t.Errorf("%x: behind the crash %d", b, l.Last())
			}
		}
	}
}

// Open and Last leave the disk as it was: what is synced, and when the power will go, too.
func TestP801OnlyLooks(t *testing.T) {
	for _, b := range [][]byte{nil, recs(1, 5), []byte("abc")} {
		d := made(t, 100, b)
		d.Append([]byte("xyz"))
		d.Stop(1)
		was := look(d)
		for range 3 {
			if l := opened(t, d); l.Last() != l.Last() || look(d) != was {
				t.Errorf("%v, not %v", look(d), was)
			}
		}
		if d.Sync() != api.ErrDead {
			t.Error("the power should go at the next call")
		}
		if n := d.Crash(3); n != 3 {
			t.Errorf("%d of 3 bytes stayed", n)
		}
	}
}

func TestP802WrittenOut(t *testing.T) {
	for _, x := range []struct{ there, behind string }{
		{"", "00000001fffffffe 00000002fffffffd 00000003fffffffc"},
		{"61", "00000000000000 00000001fffffffe 00000002fffffffd"},
		{"6162", "000000000000 00000001fffffffe 00000002fffffffd"},
		{"616263", "0000000000 00000001fffffffe 00000002fffffffd"},
		{"61626364", "00000000 00000001fffffffe 00000002fffffffd"},
		{"6162636465", "000000 00000001fffffffe 00000002fffffffd"},
		{"616263646566", "0000 00000001fffffffe 00000002fffffffd"},
		{"61626364656667", "00 00000001fffffffe 00000002fffffffd"},
		{"6162636465666768", "00000001fffffffe 00000002fffffffd"},
		{"616263646566676869", "00000000000000 00000001fffffffe 00000002fffffffd"},
		{"000000fe ffffff01", "000000ffffffff00 00000100fffffeff"},
		{"000000fe ffffff01 ff", "00000000000000 000000ffffffff00 00000100fffffeff"},
		{"0000fffe ffff0001 ", "0000ffffffff0000 00010000fffeffff"},
		{"00fffffe ff000001 ", "00ffffffff000000 01000000feffffff"},
		{"7ffffffe 80000001 ", "7fffffff80000000 800000007fffffff 800000017ffffffe"},
		{"fffffffd 00000002 ", "fffffffe00000001 ffffffff00000000"},
		{"00000009 fffffff6 00000002 fffffffd", "0000000afffffff5 0000000bfffffff4"},
	} {
		d, l := over(t, raw(x.there), 100)
		first, was := l.Last()+1, look(d)
		rows := strings.Fields(x.behind)
		for i, row := range rows {
			was.bytes += row
			if len(row) < 16 || row == "00000000000000" {
				continue
			}
			was.ops += 2
			n, _ := strconv.ParseInt(row[:8], 16, 64)
			gives(t, l, int(n))
			if look(d) != was {
				t.Fatalf("%s, row %d: %v, not %v", x.there, i, look(d), was)
			}
		}
		// Each is synced.
		if n := d.Crash(-1); n != 0 || look(d) != was {
			t.Errorf("%s: %d of some bytes stayed", x.there, n)
		}
		if again := opened(t, d); again.Last() != l.Last() || l.Last() < first {
			t.Errorf("%s: opened anew %d, not %d", x.there, again.Last(), l.Last())
		}
	}
}

// Behind each number, and each count of bytes: what is written, and by how many calls.
func TestP802Writes(t *testing.T) {
	for _, last := range edges[:len(edges)-1] {
		for tail := range 8 {
			there := append(rec(last), "abcdefgh"[:tail]...)
			d, l := over(t, there, 100)
			ops := d.Ops()
			for n := last + 1; n <= min(last+3, 1<<32-1); n++ {
				there, ops = append(there, rowOf(len(there), n)...), ops+2
				gives(t, l, n)
				if !bytes.Equal(d.Bytes(), there) || d.Ops() != ops || d.Dead() {
					t.Fatalf("%d, tail %d: %x, not %x; %d calls more", n, tail, d.Bytes(), there, d.Ops()-ops)
				}
			}
		}
	}
}

// What was not synced ahead of a Next is synced behind it, and what others put behind is held in count.
func TestP802AmongOthers(t *testing.T) {
	d, l := over(t, nil, 1000)
	var there []byte
	for n := 1; n <= 30; n++ {
		other := []byte("abcdefghijkl")[:n%13]
		d.Append(other)
		there = append(there, other...)
		there = append(there, rowOf(len(there), n)...)
		gives(t, l, n)
		if stayed := d.Crash(0); stayed != 0 || !bytes.Equal(d.Bytes(), there) {
			t.Fatalf("%d: %x, not %x", n, d.Bytes(), there)
		}
	}
}

func TestP802Many(t *testing.T) {
	const many = 2000
	d, l := over(t, []byte("x"), 8*many+7)
	for n := 1; n <= many; n++ {
		gives(t, l, n)
	}
	refuses(t, l, api.ErrFull)
	if again := opened(t, d); again.Last() != many || d.Ops() != 2+2*many {
		t.Errorf("%d, %d calls", again.Last(), d.Ops())
	}
}

// Behind 2^32 - 1 there is no number: nothing is written, with power (which will go at the next call) and without.
func TestP802LastOfAll(t *testing.T) {
	for _, b := range [][]byte{recs(1<<32 - 1), recs(1<<32-1, 1), append(recs(3, 1<<32-1), "abc"...)} {
		d, l := over(t, b, 100)
		d.Stop(1)
		was := look(d)
		for range 3 {
			asks(t, l, 0, api.ErrFull, 1<<32-1)
			if look(d) != was {
				t.Errorf("%x: %v, not %v", b, look(d), was)
			}
		}
		if d.Append(nil) != api.ErrDead {
			t.Errorf("%x: the power should go at the next call", b)
		}
		was = look(d)
		asks(t, l, 0, api.ErrFull, 1<<32-1)
		if look(d) != was {
			t.Errorf("%x: %v, not %v", b, look(d), was)
		}
		d.Crash(0)
		asks(t, l, 0, api.ErrFull, 1<<32-1)
	}
	d, l := over(t, recs(1<<32-3), 100)
	gives(t, l, 1<<32-2)
	gives(t, l, 1<<32-1)
	was := look(d)
	asks(t, l, 0, api.ErrFull, 1<<32-1)
	asks(t, opened(t, d), 0, api.ErrFull, 1<<32-1)
	if look(d) != was {
		t.Errorf("%v, not %v", look(d), was)
	}
}

// Where room lacks, for the record or for the noughts ahead of it, nothing is there that was not, and nothing is synced.
func TestP802NoRoom(t *testing.T) {
	for _, last := range []int{0, 1, 254, 1 << 31} {
		for tail := range 8 {
			need := len(rowOf(tail, 1))
			for behind := range need + 2 {
				d := made(t, 8+tail+behind, rec(last))
				d.Append([]byte("abcdefgh")[:tail])
				l, was := opened(t, d), look(d)
				if behind >= need {
					gives(t, l, last+1)
					continue
				}
				d.Stop(1)
				for range 2 {
					asks(t, l, 0, api.ErrFull, last)
					if look(d) != was {
						t.Fatalf("last %d, tail %d, %d behind: %v, not %v", last, tail, behind, look(d), was)
					}
				}
				// Neither an Append nor a Sync was done: the power goes at the first one now, and the tail is not synced.
				if d.Sync() != api.ErrDead || d.Crash(0) != 0 || !bytes.Equal(d.Bytes(), rec(last)) {
					t.Fatalf("last %d, tail %d, %d behind: %x", last, tail, behind, d.Bytes())
				}
				// Without the tail there may be room.
				if tail+behind >= 8 {
					gives(t, l, last+1)
				} else {
					asks(t, l, 0, api.ErrFull, last)
				}
			}
		}
	}
}

// A disk that is full has no power: that is told first, but of 2^32 - 1.
func TestP802DeadAheadOfNoRoom(t *testing.T) {
	d, l := over(t, recs(4), 0)
	asks(t, l, 0, api.ErrFull, 4)
	d.Stop(1)
	asks(t, l, 0, api.ErrFull, 4)
	d.Sync()
	asks(t, l, 0, api.ErrDead, 4)
	d.Crash(0)
	asks(t, l, 0, api.ErrFull, 4)
}

// The power goes at the n-th call of some Nexts: two are one Next's, the first writes, the second syncs.
func TestP802TwoCalls(t *testing.T) {
	for stop := 1; stop <= 8; stop++ {
		for tail := range 8 {
			there := []byte("abcdefgh")[:tail]
			d, l := over(t, there, 100)
			ops := d.Ops()
			d.Stop(stop)
			for n := 1; n <= (stop-1)/2; n++ {
				gives(t, l, n)
				there = append(there, rowOf(len(there), n)...)
			}
			safe := there
			last := (stop - 1) / 2
			there = append(slices.Clone(there), rowOf(len(there), last+1)...)
			for range 3 {
				asks(t, l, 0, api.ErrDead, last)
				if look(d) != (seen{fmt.Sprintf("%x", there), true, ops + stop - 1}) {
					t.Fatalf("Stop(%d), tail %d: %v", stop, tail, look(d))
				}
			}
			if d.Crash(0); !bytes.Equal(d.Bytes(), safe) || l.Last() != last {
				t.Fatalf("Stop(%d), tail %d: %x, not %x", stop, tail, d.Bytes(), safe)
			}
		}
	}
}

// gone is a ledger over a disk of a record and a tail, the power of which has gone at one of a Next's two calls, and come
// back with a front of what that wrote.
func gone(t testing.TB, last, tail, stop, front int) (*disk.Disk, *Ledger) {
	t.Helper()
	d, l := over(t, append(rec(last), "abcdefgh"[:tail]...), 100)
	d.Stop(stop)
	asks(t, l, 0, api.ErrDead, last)
	if n := d.Crash(front); n != front {
		t.Fatalf("%d of %d bytes stayed", n, front)
	}
	if l.Last() != last {
		t.Fatalf("behind the crash: Last %d, not %d", l.Last(), last)
	}
	return d, l
}

// everyFront goes through all that can stay where the power goes at a Next.
func everyFront(f func(last, tail, stop, front int)) {
	for _, last := range append([]int{0}, edges[:len(edges)-1]...) {
		for tail := range 8 {
			for stop := 1; stop <= 2; stop++ {
				for front := range len(rowOf(tail, 1)) + 1 {
					f(last, tail, stop, front)
				}
			}
		}
	}
}

// The one from before is asked on: its Last is as it was.
func TestP802AskedOn(t *testing.T) {
	everyFront(func(last, tail, stop, front int) {
		d, l := gone(t, last, tail, stop, front)
		there := d.Bytes()
		for n := last + 1; n <= min(last+2, 1<<32-1); n++ {
			there = append(there, rowOf(len(there), n)...)
			gives(t, l, n)
			if !bytes.Equal(d.Bytes(), there) {
				t.Fatalf("last %d, tail %d, Stop(%d), front %d: %x, not %x", last, tail, stop, front, d.Bytes(), there)
			}
		}
		if again := opened(t, d); again.Last() != l.Last() {
			t.Fatalf("last %d, tail %d, Stop(%d), front %d: opened anew %d", last, tail, stop, front, again.Last())
		}
	})
}

// The ledger is opened anew: a record that stayed whole counts, no other does.
func TestP802OpenedAnew(t *testing.T) {
	everyFront(func(last, tail, stop, front int) {
		d, _ := gone(t, last, tail, stop, front)
		there, l := d.Bytes(), opened(t, d)
		if front == len(rowOf(tail, 1)) {
			last++
		}
		if l.Last() != last {
			t.Fatalf("tail %d, Stop(%d), front %d: %d, not %d", tail, stop, front, l.Last(), last)
		}
		if last == 1<<32-1 {
			asks(t, l, 0, api.ErrFull, last)
			return
		}
		gives(t, l, last+1)
		if there = append(there, rowOf(len(there), last+1)...); !bytes.Equal(d.Bytes(), there) {
			t.Fatalf("last %d, tail %d, Stop(%d), front %d: %x, not %x", last, tail, stop, front, d.Bytes(), there)
		}
	})
}

// The one opened anew and the one from before are asked by turns, in both orders: none gives what the other gave.
func TestP803ByTurns(t *testing.T) {
	everyFront(func(last, tail, stop, front int) {
		for _, order := range []string{"01", "10", "001", "110", "0110", "1001", "0101", "1010"} {
			d, old := gone(t, last, tail, stop, front)
			both, given := []*Ledger{old, opened(t, d)}, last
			for _, who := range order {
				l := both[who-'0']
				if l.Last() == 1<<32-1 {
					asks(t, l, 0, api.ErrFull, 1<<32-1)
					continue
				}
				n, e := l.Next()
				if e != api.OK || n <= given || n > last+5 || l.Last() != n {
					t.Fatalf("last %d, tail %d, Stop(%d), front %d, %s: %d behind %d: %v", last, tail, stop, front, order, n, given, e)
				}
				given = n
			}
		}
	})
}

// Front by front the power goes over and over, at each of the calls, and each ledger there ever was is asked on.
func TestP803OverAndOver(t *testing.T) {
	r := rand.New(rand.NewSource(803))
	for range 300 {
		d, first := over(t, []byte("abcdefgh")[:r.Intn(8)], 10000)
		all, given := []*Ledger{first}, map[int]int{}
		for range 60 {
			d.Stop(1 + r.Intn(8))
			for !d.Dead() {
				l := all[r.Intn(len(all))]
				last := l.Last()
				n, e := l.Next()
				switch {
				case e == api.ErrDead && d.Dead() && n == 0 && l.Last() == last:
				case e == api.OK && n == last+1 && l.Last() == n && given[n] == 0:
					given[n]++
				default:
					t.Fatalf("%d, %v; Last was %d, is %d; given %d times", n, e, last, l.Last(), given[n])
				}
			}
			d.Crash(r.Intn(17))
			if r.Intn(2) == 0 {
				all = append(all, opened(t, d))
			}
		}
		if len(given) < 40 {
			t.Fatalf("but %d numbers were given", len(given))
		}
	}
}

// A number that one ledger gave is told by all over that disk, and not given by them.
func TestP803TwoOverOneDisk(t *testing.T) {
	d, a := over(t, nil, 1000)
	b := opened(t, d)
	for n := 1; n <= 60; n++ {
		l, other := a, b
		if n%3 == 0 || n%5 == 0 {
			l, other = b, a
		}
		gives(t, l, n)
		if other.Last() != n {
			t.Fatalf("%d: the other one's Last is %d", n, other.Last())
		}
	}
}

// The same bytes at the same place: what one ledger could not write another one did, and gave.
func TestP803WrittenByAnother(t *testing.T) {
	for stop := 1; stop <= 2; stop++ {
		d, old := gone(t, 5, 3, stop, 0)
		l := opened(t, d)
		gives(t, l, 6)
		gives(t, old, 7)
		gives(t, l, 8)
	}
}

// Of two disks neither ledger knows of the other.
func TestP7TwoDisks(t *testing.T) {
	d, a := over(t, nil, 100)
	_, b := over(t, recs(40), 100)
	gives(t, a, 1)
	gives(t, b, 41)
	gives(t, a, 2)
	d.Stop(1)
	asks(t, a, 0, api.ErrDead, 2)
	gives(t, b, 42)
}

// Noughts may make a record of what stood there: the number given is Last all the same, till the disk is opened anew.
func TestP802NoughtsMakeARecord(t *testing.T) {
	for digits, made := range map[string]int{"ffffffff": 1<<32 - 1, "ffffffff000000": 1<<32 - 1, "00ffffffff": 0x00ffffff, "000000ffffffff": 255} {
		d, l := over(t, raw(digits), 100)
		gives(t, l, 1)
		gives(t, l, 2)
		if again := opened(t, d); again.Last() != made {
			t.Errorf("%s: %d, not %d", digits, again.Last(), made)
		}
	}
}

// later is all that is told by a few more calls on a disk and its ledgers.
func later(d *disk.Disk, pick int, ls ...*Ledger) string {
	var b strings.Builder
	stayed := d.Crash(pick)
	for _, l := range ls {
		fmt.Fprintln(&b, stayed, l.Last(), look(d))
	}
	for i := range 3 {
		for _, l := range ls {
			n, e := l.Next()
			fmt.Fprintln(&b, n, e, l.Last(), look(d))
		}
		d.Stop(i)
	}
	return b.String()
}

// A Next that is refused, and wrote nothing, has changed nothing that a later call could tell.
func TestP5Refused(t *testing.T) {
	for pick := range 12 {
		for _, stop := range []int{1, 2} {
			for _, room := range []int{11, 20, 100} {
				var told [2]string
				for more := range told {
					d := made(t, room, []byte("abc"))
					a, b := opened(t, d), opened(t, d)
					d.Stop(stop)
					a.Next()
					for range more {
						for range 2 {
							refuses(t, a, errnoOf(d))
							refuses(t, b, errnoOf(d))
						}
					}
					told[more] = later(d, pick, a, b)
				}
				if told[0] != told[1] {
					t.Errorf("room %d, Stop(%d), pick %d: %s\nnot %s", room, stop, pick, told[1], told[0])
				}
			}
		}
	}
	// A record that is there and not synced counts till a crash takes it, also where a Next was refused for want of room.
	d := made(t, 20, nil)
	l := opened(t, d)
	d.Append(recs(9, 8))
	asks(t, l, 0, api.ErrFull, 9)
	d.Crash(0)
	gives(t, l, 1)
}

// errnoOf is why a disk that will not do a Next will not.
func errnoOf(d *disk.Disk) api.Errno {
	if d.Dead() {
		return api.ErrDead
	}
	return api.ErrFull
}

// world is a disk and its ledgers, a second disk on which the same is done as P802 says it, and what was given.
type world struct {
	d, twin *disk.Disk
	all     []*Ledger
	given   map[int]int
	most    int // of those that were given
}

func newWorld(t testing.TB, room int, b []byte) *world {
	w := &world{d: made(t, room, b), twin: made(t, room, b), given: map[int]int{}}
	w.all = []*Ledger{opened(t, w.d)}
	return w
}

// next asks the k-th ledger, and tells what is wrong.
func (w *world) next(k int) string {
	l := w.all[k%len(w.all)]
	last := l.Last()
	n, e := l.Next()
	want, wantN := api.ErrFull, 0
	if last < 1<<32-1 {
		want = w.twin.Append(rowOf(len(w.twin.Bytes()), last+1))
		if want == api.OK {
			want = w.twin.Sync()
		}
	}
	if want == api.OK {
		last++
		wantN = last
		w.given[last]++
		w.most = max(w.most, last)
	}
	if w.given[n] > 1 {
		return fmt.Sprintf("Next: %d is given twice", n)
	}
	if n != wantN || e != want || l.Last() != last {
		return fmt.Sprintf("Next: %d, %v, Last %d, not %d, %v, %d", n, e, l.Last(), wantN, want, last)
	}
	return ""
}

// open opens one more, and tells what is wrong.
func (w *world) open() string {
	l, e := Open(w.d)
	if w.d.Dead() {
		if l != nil || e != api.ErrDead {
			return fmt.Sprintf("Open without power: %v, %v", l, e)
		}
		return ""
	}
	if l == nil || e != api.OK || l.Last() != greatestOf(w.twin.Bytes()) {
		return fmt.Sprintf("Open: %v, %v", l, e)
	}
	w.all = append(w.all, l)
	return ""
}

// do does one thing, and tells what is wrong behind it.
func (w *world) do(kind rune, n int) string {
	fault := ""
	switch kind {
	case 'n':
		fault = w.next(n)
	case 'o':
		fault = w.open()
	case 's':
		w.d.Stop(n)
		w.twin.Stop(n)
	case 'c':
		w.d.Crash(n)
		w.twin.Crash(n)
	case 'a':
		b := []byte("\xff\xff\xff\xff\xffxyz\x00")[:n]
		w.d.Append(b)
		w.twin.Append(b)
	}
	for k, l := range w.all {
		if l.Last() < w.most {
			return fmt.Sprintf("ledger %d: Last %d, %d was given", k, l.Last(), w.most)
		}
	}
	if look(w.d) != look(w.twin) {
		return fmt.Sprintf("disk %v, not %v", look(w.d), look(w.twin))
	}
	return fault
}

// All rows of a few calls: the oldest and the newest ledger are asked, others opened, the power goes and comes back.
func TestP803EveryFewCalls(t *testing.T) {
	type call struct {
		kind rune
		n    int
	}
	all := []call{{'n', 0}, {'n', -1}, {'o', 0}, {'s', 1}, {'s', 2}, {'c', 0}, {'c', 6}, {'c', -1}}
	const long = 6
	for _, room := range []int{30, 100} {
		var calls []call
		var next func()
		next = func() {
			if len(calls) < long {
				for _, c := range all {
					calls = append(calls, c)
					next()
					calls = calls[:len(calls)-1]
				}
				return
			}
			w := newWorld(t, room, []byte("abc"))
			for i, c := range calls {
				n := c.n
				if c.kind == 'n' && n < 0 {
					n = len(w.all) - 1
				}
				if fault := w.do(c.kind, n); fault != "" {
					t.Fatalf("room %d, %v: %s", room, calls[:i+1], fault)
				}
			}
		}
		next()
	}
}

// row does what some bytes say, and tells what is wrong; ordinary things come more often than others.
func (w *world) row(b []byte) string {
	for ; len(b) > 1; b = b[2:] {
		kind, n := "nnnnnnnoscca"[b[0]%12], int(b[1])
		switch kind {
		case 's':
			n %= 6
		case 'a':
			n %= 10
		case 'c':
			n -= 128
		}
		if fault := w.do(rune(kind), n); fault != "" {
			return fmt.Sprintf("%c %d, %d more: %s", kind, n, len(b)/2-1, fault)
		}
	}
	return ""
}

func TestP803LongRows(t *testing.T) {
	r := rand.New(rand.NewSource(8))
	for range 400 {
		there := recs(r.Intn(1<<(1+r.Intn(31))), r.Intn(300))[:r.Intn(17)]
		b := make([]byte, 200)
		r.Read(b)
		if fault := newWorld(t, 16+r.Intn(600), there).row(b); fault != "" {
			t.Fatalf("%x, %x: %s", there, b, fault)
		}
	}
}

func FuzzP801Open(f *testing.F) {
	for _, s := range [][]byte{nil, recs(1), recs(2, 1), recs(1<<32-1, 0), append(recs(255), "abc"...), make([]byte, 24)} {
		f.Add(s)
	}
	f.Fuzz(func(t *testing.T, b []byte) {
		d, l := over(t, b, 100)
		if l.Last() != greatestOf(b) {
			t.Fatalf("%x: %d, not %d", b, l.Last(), greatestOf(b))
		}
		if n, e := l.Next(); e == api.OK && (n != greatestOf(b)+1 || !bytes.Equal(d.Bytes(), append(slices.Clone(b), rowOf(len(b), n)...))) {
			t.Fatalf("%x: %d, %x", b, n, d.Bytes())
		}
	})
}

func FuzzP803Calls(f *testing.F) {
	f.Add(100, []byte(nil), []byte("\x00\x00\x08\x01\x00\x00\x09\x80\x07\x00\x00\x00\x00\x01"))
	f.Add(60, recs(255), []byte("\x08\x02\x00\x00\x09\x00\x07\x00\x00\x01\x00\x00\x0b\x03\x00\x00"))
	f.Fuzz(func(t *testing.T, room int, there, calls []byte) {
		there, calls = there[:min(len(there), 100)], calls[:min(len(calls), 400)]
		if room < 1 || room > 2000 || room < len(there) {
			t.Skip()
		}
		if fault := newWorld(t, room, there).row(calls); fault != "" {
			t.Fatal(fault)
		}
	})
}

func BenchmarkOpen(b *testing.B) {
	d := made(b, 1<<20, bytes.Repeat(rec(1234567), 1<<17))
	for b.Loop() {
		if _, e := Open(d); e != api.OK {
			b.Fatal(e)
		}
	}
}

func BenchmarkNext(b *testing.B) {
	var l *Ledger
	for i := 0; b.Loop(); i++ {
		if i%100 == 0 {
			_, l = over(b, nil, 800)
		}
		if _, e := l.Next(); e != api.OK {
			b.Fatal(e)
		}
	}
}
