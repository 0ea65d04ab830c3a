package disk

import (
	"bytes"
	"fmt"
	"math"
	"math/big"
	"math/rand"
	"slices"
	"strings"
	"testing"

	"lattice/api"
)

// face is what is asked of a disk, and of what is said anew of one.
type face interface {
	Append(b []byte) api.Errno
	Sync() api.Errno
	Bytes() []byte
	Stop(n int)
	Crash(pick int) int
	Dead() bool
	Ops() int
}

// said is P701 and P702, said anew: two texts, and what each call from now on would answer.
type said struct {
	room        int
	safe, loose string
	dead        bool
	ops         int
	coming      []api.Errno // the answers of the next calls that nothing else is against; behind them: OK
}

func (s *said) answer() api.Errno {
	e := api.OK
	if len(s.coming) > 0 {
		e, s.coming = s.coming[0], s.coming[1:]
	}
	if e == api.OK {
		s.ops++
	} else {
		s.dead = true
	}
	return e
}

func (s *said) Append(b []byte) api.Errno {
	switch {
	case s.dead:
		return api.ErrDead
	case len(s.safe+s.loose+string(b)) > s.room:
		return api.ErrFull
	}
	s.loose += string(b)
	return s.answer()
}

func (s *said) Sync() api.Errno {
	if s.dead {
		return api.ErrDead
	}
	if s.answer() != api.OK {
		return api.ErrDead
	}
	s.safe, s.loose = s.safe+s.loose, ""
	return api.OK
}

func (s *said) Bytes() []byte { return []byte(s.safe + s.loose) }

// Stop is of small numbers only: as many answers are laid out.
func (s *said) Stop(n int) {
	s.coming = nil
	if n > 0 {
		s.coming = append(make([]api.Errno, n-1), api.ErrDead)
	}
}

func (s *said) Crash(pick int) int {
	count := big.NewInt(int64(len(s.loose) + 1))
	n := int(new(big.Int).Mod(big.NewInt(int64(pick)), count).Int64())
	*s = said{room: s.room, safe: s.safe + s.loose[:n], ops: s.ops}
	return n
}

func (s *said) Dead() bool { return s.dead }

func (s *said) Ops() int { return s.ops }

// call is one of a face's that changes something.
type call struct {
	name string
	text string
	n    int
}

func appends(text string) call { return call{name: "Append", text: text} }
func syncs() call              { return call{name: "Sync"} }
func stops(n int) call         { return call{name: "Stop", n: n} }
func crashes(pick int) call    { return call{name: "Crash", n: pick} }

func (c call) String() string {
	switch c.name {
	case "Append":
		return fmt.Sprintf("Append(%.20q)", c.text)
	case "Sync":
		return "Sync()"
	}
	return fmt.Sprintf("%s(%d)", c.name, c.n)
}

// do makes a call, and tells all that it answers.
func (c call) do(f face) string {
	switch c.name {
	case "Append":
		return f.Append([]byte(c.text)).Error()
	case "Sync":
		return f.Sync().Error()
	case "Stop":
		f.Stop(c.n)
		return "stop"
	}
	return fmt.Sprint(f.Crash(c.n))
}

// seen is all that a face tells without being changed.
type seen struct {
	bytes string
	dead  bool
	ops   int
}

func look(f face) seen { return seen{string(f.Bytes()), f.Dead(), f.Ops()} }

func made(t testing.TB, room int) *Disk {
	t.Helper()
	d, e := New(room)
	if e != api.OK || d == nil {
		t.Fatalf("New(%d): %v", room, e)
	}
	return d
}

// run makes calls on a new disk and on what is said anew of one, and holds them against each other behind each call; at
// the end a crash that takes all it may shows what was synced.
func run(t testing.TB, room int, calls ...call) {
	t.Helper()
	d, s := made(t, room), &said{room: room}
	calls = append(slices.Clone(calls), crashes(0))
	for i, c := range calls {
		got, want := c.do(d), c.do(s)
		if got != want || look(d) != look(s) {
			t.Fatalf("room %d, %v: %s, %.60v, not %s, %.60v", room, calls[:i+1], got, look(d), want, look(s))
		}
	}
}

// row is a line of a test that is written out: a call, what it answers, and what is seen behind it.
type row struct {
	call
	answer string
	seen
}

func test(t *testing.T, room int, rows ...row) {
	t.Helper()
	d := made(t, room)
	for i, r := range rows {
		if got := r.do(d); got != r.answer || look(d) != r.seen {
			t.Fatalf("row %d, %v: %s, %v, not %s, %v", i, r.call, got, look(d), r.answer, r.seen)
		}
	}
}

func TestP702Example(t *testing.T) {
	test(t, 10,
		row{appends("abc"), "ok", seen{"abc", false, 1}},
		row{crashes(2), "2", seen{"ab", false, 1}})
}

func TestP701Rooms(t *testing.T) {
	for _, room := range []int{1, 2, 3, 100, 1<<24 - 1, 1 << 24} {
		if got := look(made(t, room)); got != (seen{}) {
			t.Errorf("New(%d): %v", room, got)
		}
	}
	none := []int{0, -1, -2, 1<<24 + 1, 1<<24 + 2, 1 << 25, 1 << 31, 1 << 32, 1<<32 + 1, 1 << 40, 1<<40 + 1, -1 << 24, -1 << 31, -1<<32 + 1, -1 << 40, math.MaxInt, math.MinInt, math.MinInt + 1}
	for _, room := range none {
		if d, e := New(room); e != api.ErrArg || d != nil {
			t.Errorf("New(%d): %v, %v", room, d, e)
		}
	}
}

func TestP701Append(t *testing.T) {
	test(t, 5,
		row{appends("abc"), "ok", seen{"abc", false, 1}},
		row{appends(""), "ok", seen{"abc", false, 2}},
		row{appends("def"), "full", seen{"abc", false, 2}},
		row{appends("d"), "ok", seen{"abcd", false, 3}},
		row{appends("ef"), "full", seen{"abcd", false, 3}},
		row{appends("\x00"), "ok", seen{"abcd\x00", false, 4}},
		row{appends("f"), "full", seen{"abcd\x00", false, 4}},
		row{appends(strings.Repeat("f", 100)), "full", seen{"abcd\x00", false, 4}},
		row{appends(""), "ok", seen{"abcd\x00", false, 5}},
		row{syncs(), "ok", seen{"abcd\x00", false, 6}},
		row{appends("f"), "full", seen{"abcd\x00", false, 6}})
}

// No list and an empty one are the same.
func TestP701AppendNothing(t *testing.T) {
	for _, b := range [][]byte{nil, {}, make([]byte, 0, 9)} {
		d := made(t, 1)
		for i := range 3 {
			if e := d.Append(b); e != api.OK || look(d) != (seen{"", false, i + 1}) {
				t.Errorf("%v, %v", e, look(d))
			}
		}
		d.Stop(1)
		if e := d.Append(b); e != api.ErrDead || look(d) != (seen{"", true, 3}) {
			t.Errorf("the power goes: %v, %v", e, look(d))
		}
	}
}

func TestP701EveryByte(t *testing.T) {
	d, all := made(t, 256), make([]byte, 256)
	for i := range all {
		all[i] = byte(i)
		if e := d.Append(all[i : i+1]); e != api.OK {
			t.Fatal(e)
		}
	}
	if !bytes.Equal(d.Bytes(), all) {
		t.Errorf("%x", d.Bytes())
	}
}

// Each room of some, filled in each two pieces, and by one byte more.
func TestP701RoomsFilled(t *testing.T) {
	for room := 1; room <= 20; room++ {
		all := strings.Repeat("abcdefg", 4)
		for cut := range room + 2 {
			run(t, room, appends(all[:cut]), appends(all[cut:room+1]))
			run(t, room, appends(all[:cut]), syncs(), appends(all[cut:max(cut, room)]), appends("x"), appends(""))
		}
	}
}

func TestP701GreatestRoom(t *testing.T) {
	const room = 1 << 24
	all := make([]byte, room+1)
	for i := range all {
		all[i] = byte(i ^ i>>8 ^ i>>16)
	}
	d := made(t, room)
	if e := d.Append(all); e != api.ErrFull || look(d) != (seen{}) {
		t.Fatalf("one more than room at once: %v, %d bytes, %d", e, len(d.Bytes()), d.Ops())
	}
	for _, want := range []struct {
		b []byte
		e api.Errno
		n int
	}{
		{all[:room-1], api.OK, room - 1}, {all[:2], api.ErrFull, room - 1}, {all, api.ErrFull, room - 1},
		{all[room-1 : room], api.OK, room}, {all[:1], api.ErrFull, room}, {nil, api.OK, room},
	} {
		if e := d.Append(want.b); e != want.e || !bytes.Equal(d.Bytes(), all[:want.n]) {
			t.Fatalf("%d bytes behind %d: %v, %d", len(want.b), want.n, e, len(d.Bytes()))
		}
	}
	if n := d.Crash(-2); n != room-1 || !bytes.Equal(d.Bytes(), all[:room-1]) {
		t.Errorf("crash: %d, %d", n, len(d.Bytes()))
	}
	d = made(t, room)
	if e := d.Append(all[:room]); e != api.OK || d.Sync() != api.OK || d.Crash(room) != 0 || !bytes.Equal(d.Bytes(), all[:room]) {
		t.Errorf("all at once: %v, %d", e, len(d.Bytes()))
	}
}

// Behind a refused Append all is as it was: also what is synced, and when the power will go.
func TestP701FullChangesNothing(t *testing.T) {
	test(t, 4,
		row{appends("ab"), "ok", seen{"ab", false, 1}},
		row{syncs(), "ok", seen{"ab", false, 2}},
		row{appends("c"), "ok", seen{"abc", false, 3}},
		row{stops(2), "stop", seen{"abc", false, 3}},
		row{appends("xy"), "full", seen{"abc", false, 3}},
		row{appends("xy"), "full", seen{"abc", false, 3}},
		row{appends("xyz"), "full", seen{"abc", false, 3}},
		row{appends(""), "ok", seen{"abc", false, 4}},
		row{appends("xy"), "full", seen{"abc", false, 4}},
		row{appends("d"), "dead", seen{"abcd", true, 4}},
		row{crashes(1), "1", seen{"abc", false, 4}},
		row{appends("xy"), "full", seen{"abc", false, 4}},
		row{crashes(0), "0", seen{"abc", false, 4}})
}

// What a crash took leaves its room.
func TestP701RoomBehindCrash(t *testing.T) {
	test(t, 3,
		row{appends("abc"), "ok", seen{"abc", false, 1}},
		row{crashes(1), "1", seen{"a", false, 1}},
		row{appends("xyz"), "full", seen{"a", false, 1}},
		row{appends("xy"), "ok", seen{"axy", false, 2}},
		row{crashes(0), "0", seen{"a", false, 2}},
		row{appends("z"), "ok", seen{"az", false, 3}},
		row{crashes(1), "1", seen{"az", false, 3}})
}

func TestP701Dead(t *testing.T) {
	rows := []row{
		{appends("ab"), "ok", seen{"ab", false, 1}},
		{stops(1), "stop", seen{"ab", false, 1}},
		{appends("c"), "dead", seen{"abc", true, 1}},
	}
	// Without power nothing is done, and nothing is told ahead of that.
	for range 3 {
		for _, c := range []call{appends("d"), appends(""), appends("de"), appends(strings.Repeat("d", 99)), syncs()} {
			rows = append(rows, row{c, "dead", seen{"abc", true, 1}})
		}
		for _, n := range []int{3, 1, 0, -1, math.MaxInt, math.MinInt} {
			rows = append(rows, row{stops(n), "stop", seen{"abc", true, 1}}, row{syncs(), "dead", seen{"abc", true, 1}})
		}
	}
	rows = append(rows, row{crashes(3), "3", seen{"abc", false, 1}}, row{appends("d"), "ok", seen{"abcd", false, 2}})
	test(t, 4, rows...)
}

// Ops goes on over crashes, and neither Stop nor Crash nor what was refused counts.
func TestP701Ops(t *testing.T) {
	test(t, 2,
		row{syncs(), "ok", seen{"", false, 1}},
		row{syncs(), "ok", seen{"", false, 2}},
		row{appends(""), "ok", seen{"", false, 3}},
		row{appends("a"), "ok", seen{"a", false, 4}},
		row{appends("bc"), "full", seen{"a", false, 4}},
		row{crashes(0), "0", seen{"", false, 4}},
		row{stops(2), "stop", seen{"", false, 4}},
		row{syncs(), "ok", seen{"", false, 5}},
		row{syncs(), "dead", seen{"", true, 5}},
		row{syncs(), "dead", seen{"", true, 5}},
		row{appends(""), "dead", seen{"", true, 5}},
		row{crashes(7), "0", seen{"", false, 5}},
		row{crashes(7), "0", seen{"", false, 5}},
		row{stops(1), "stop", seen{"", false, 5}},
		row{appends("a"), "dead", seen{"a", true, 5}},
		row{crashes(1), "1", seen{"a", false, 5}},
		row{appends("b"), "ok", seen{"ab", false, 6}})
}

func TestP701OpsMany(t *testing.T) {
	d := made(t, 1000)
	for i := range 1000 {
		if d.Append([]byte{byte(i)}) != api.OK || d.Ops() != 2*i+1 || d.Sync() != api.OK || d.Ops() != 2*i+2 {
			t.Fatalf("%d: %d", i, d.Ops())
		}
	}
}

// The power goes at the n-th call from now on, be they Appends or Syncs, and at no other.
func TestP702Stop(t *testing.T) {
	for n := 1; n <= 8; n++ {
		for kinds := range 1 << n {
			d := made(t, 100)
			d.Stop(n)
			for i := 1; i <= n; i++ {
				want, e := api.OK, api.OK
				if i == n {
					want = api.ErrDead
				}
				if kinds>>(i-1)&1 == 0 {
					e = d.Append([]byte("ab"))
				} else {
					e = d.Sync()
				}
				if e != want || d.Dead() != (i == n) || d.Ops() != min(i, n-1) {
					t.Fatalf("Stop(%d), kinds %b, call %d: %v, dead %v, %d", n, kinds, i, e, d.Dead(), d.Ops())
				}
			}
		}
	}
}

func TestP702StopFarOff(t *testing.T) {
	for _, n := range []int{201, 202, 1 << 24, 1<<31 - 1, 1 << 31, 1 << 32, 1<<32 + 1, 1<<40 + 1, math.MaxInt} {
		d := made(t, 100)
		d.Stop(n)
		for i := range 100 {
			if d.Append([]byte("a")) != api.OK || d.Sync() != api.OK || look(d) != (seen{strings.Repeat("a", i+1), false, 2*i + 2}) {
				t.Fatalf("Stop(%d): %v", n, look(d))
			}
		}
		if e := d.Append(nil); (e == api.OK) != (n != 201) {
			t.Errorf("Stop(%d), call 201: %v", n, e)
		}
	}
}

func TestP702StopBelowOne(t *testing.T) {
	for _, n := range []int{0, -1, -2, -1 << 24, -1<<32 + 1, -1 << 40, math.MinInt, math.MinInt + 1} {
		for _, before := range []int{0, 1, 2, 5} {
			d := made(t, 100)
			d.Stop(before)
			d.Stop(n)
			for i := range 20 {
				if d.Append([]byte("a")) != api.OK || d.Sync() != api.OK || d.Dead() {
					t.Fatalf("Stop(%d), Stop(%d): call %d", before, n, 2*i)
				}
			}
		}
	}
}

// Told anew ahead of its end it counts from then on, and what was told earlier is over.
func TestP702StopAnew(t *testing.T) {
	for first := range 5 {
		for between := range 5 {
			for second := range 5 {
				if first > 0 && between >= first {
					continue
				}
				calls := []call{stops(first)}
				for range between {
					calls = append(calls, syncs())
				}
				calls = append(calls, stops(second))
				for range 6 {
					calls = append(calls, appends("a"))
				}
				run(t, 100, calls...)
			}
		}
	}
	test(t, 9,
		row{stops(2), "stop", seen{"", false, 0}},
		row{appends("a"), "ok", seen{"a", false, 1}},
		row{stops(2), "stop", seen{"a", false, 1}},
		row{appends("b"), "ok", seen{"ab", false, 2}},
		row{appends("c"), "dead", seen{"abc", true, 2}})
}

// Once the power has gone and come back, no later call is struck by what was told.
func TestP702StopOnce(t *testing.T) {
	for n := 1; n <= 4; n++ {
		var calls []call
		calls = append(calls, stops(n))
		for range n {
			calls = append(calls, appends("a"))
		}
		calls = append(calls, crashes(1))
		for range 9 {
			calls = append(calls, syncs())
		}
		run(t, 100, calls...)
	}
}

// An Append that the power goes at leaves its bytes, not synced: a crash may take some of them.
func TestP702AppendGoes(t *testing.T) {
	for pick, want := range []string{"old", "olda", "oldab", "oldabc", "oldabcd", "old"} {
		test(t, 7,
			row{appends("old"), "ok", seen{"old", false, 1}},
			row{syncs(), "ok", seen{"old", false, 2}},
			row{appends("a"), "ok", seen{"olda", false, 3}},
			row{stops(1), "stop", seen{"olda", false, 3}},
			row{appends("bcd"), "dead", seen{"oldabcd", true, 3}},
			row{crashes(pick), fmt.Sprint(len(want) - 3), seen{want, false, 3}},
			row{appends(""), "ok", seen{want, false, 4}},
			row{crashes(0), "0", seen{want, false, 4}})
	}
}

// A Sync that the power goes at is not done: what was not synced is not synced.
func TestP702SyncGoes(t *testing.T) {
	for pick, want := range []string{"old", "olda", "oldab", "old"} {
		test(t, 7,
			row{appends("old"), "ok", seen{"old", false, 1}},
			row{syncs(), "ok", seen{"old", false, 2}},
			row{appends("ab"), "ok", seen{"oldab", false, 3}},
			row{stops(1), "stop", seen{"oldab", false, 3}},
			row{syncs(), "dead", seen{"oldab", true, 3}},
			row{syncs(), "dead", seen{"oldab", true, 3}},
			row{crashes(pick), fmt.Sprint(len(want) - 3), seen{want, false, 3}},
			row{syncs(), "ok", seen{want, false, 4}})
	}
}

// far are picks whose rests are asked of numbers without bounds.
func far() []int {
	l := []int{math.MaxInt, math.MaxInt - 1, math.MinInt, math.MinInt + 1}
	for k := 8; k < 63; k++ {
		l = append(l, 1<<k, 1<<k-1, 1<<k+1, -1<<k, -1<<k-1, -1<<k+1)
	}
	return l
}

// Of each count of bytes that are not synced each pick, with power and without.
func TestP702Picks(t *testing.T) {
	for loose := range 12 {
		picks := far()
		for pick := -3 * (loose + 1); pick <= 3*(loose+1); pick++ {
			picks = append(picks, pick)
		}
		text := "abcdefghijkl"[:loose]
		for _, pick := range picks {
			run(t, 100, appends(text), crashes(pick))
			run(t, 100, appends("old"), syncs(), appends(text), crashes(pick), appends("new"))
			run(t, 100, appends("old"), syncs(), stops(1), appends(text), crashes(pick), appends("new"))
			run(t, 100, appends("old"), syncs(), appends(text), stops(1), syncs(), crashes(pick), crashes(pick))
		}
	}
}

func TestP702PicksWrittenOut(t *testing.T) {
	for pick, want := range map[int]string{
		0: "", 1: "a", 2: "ab", 3: "abc", 4: "", 5: "a", 7: "abc", 8: "",
		-1: "abc", -2: "ab", -3: "a", -4: "", -5: "abc", -8: "",
		1 << 40: "", 1<<40 + 1: "a", -1 << 40: "", -1<<40 + 1: "a", math.MaxInt: "abc", math.MinInt: "", math.MinInt + 2: "ab",
	} {
		for _, power := range []bool{true, false} {
			d := made(t, 3)
			if !power {
				d.Stop(1)
			}
			d.Append([]byte("abc"))
			if n := d.Crash(pick); n != len(want) || string(d.Bytes()) != want || d.Dead() {
				t.Errorf("Crash(%d), power %v: %d, %q", pick, power, n, d.Bytes())
			}
		}
	}
}

// Where all is synced, or nothing is there, there is nothing to pick.
func TestP702NothingToPick(t *testing.T) {
	for _, pick := range append(far(), 0, 1, 2, 3, -1, -2) {
		test(t, 5,
			row{crashes(pick), "0", seen{"", false, 0}},
			row{appends("abc"), "ok", seen{"abc", false, 1}},
			row{syncs(), "ok", seen{"abc", false, 2}},
			row{crashes(pick), "0", seen{"abc", false, 2}},
			row{crashes(pick), "0", seen{"abc", false, 2}})
	}
}

// A Stop that was told ahead of a Crash does not go on behind it, with power and without.
func TestP702CrashEndsStop(t *testing.T) {
	for n := 1; n <= 4; n++ {
		for done := range n {
			for _, gone := range []bool{false, true} {
				var calls []call
				if gone {
					calls = append(calls, stops(1), syncs())
				}
				calls = append(calls, stops(n))
				for range done {
					calls = append(calls, appends("a"))
				}
				calls = append(calls, crashes(done))
				d := made(t, 100)
				for _, c := range calls {
					c.do(d)
				}
				for i := range 9 {
					if d.Append([]byte("b")) != api.OK || d.Sync() != api.OK || d.Dead() {
						t.Fatalf("%v: call %d", calls, 2*i)
					}
				}
			}
		}
	}
}

// A Stop behind a Crash holds as any does.
func TestP702StopBehindCrash(t *testing.T) {
	test(t, 9,
		row{stops(1), "stop", seen{"", false, 0}},
		row{appends("ab"), "dead", seen{"ab", true, 0}},
		row{crashes(1), "1", seen{"a", false, 0}},
		row{stops(2), "stop", seen{"a", false, 0}},
		row{syncs(), "ok", seen{"a", false, 1}},
		row{syncs(), "dead", seen{"a", true, 1}},
		row{crashes(1), "0", seen{"a", false, 1}},
		row{syncs(), "ok", seen{"a", false, 2}})
}

// All rows of a few calls on small rooms.
func TestP702EveryFewCalls(t *testing.T) {
	all := []call{appends(""), appends("a"), appends("bc"), appends("defg"), syncs(), stops(0), stops(1), stops(2), crashes(0), crashes(1), crashes(-1)}
	const long = 5
	for room := 1; room <= 4; room++ {
		var calls []call
		var next func()
		next = func() {
			if len(calls) == long {
				run(t, room, calls...)
				return
			}
			for _, c := range all {
				calls = append(calls, c)
				next()
				calls = calls[:len(calls)-1]
			}
		}
		next()
	}
}

// someCall is a call that hangs on bytes; ordinary ones come more often than far-off ones.
func someCall(kind, n byte) call {
	switch kind % 8 {
	case 0, 1, 2, 3:
		return appends(strings.Repeat(string(rune('a'+n%26)), int(n)%23))
	case 4, 5:
		return syncs()
	case 6:
		return stops(int(int8(n)) / 8)
	}
	return crashes(int(int8(n)) * (1 + int(kind/8)))
}

func TestP702LongRows(t *testing.T) {
	r := rand.New(rand.NewSource(7))
	for range 300 {
		var calls []call
		for range 300 {
			calls = append(calls, someCall(byte(r.Intn(256)), byte(r.Intn(256))))
		}
		run(t, 1+r.Intn(400), calls...)
	}
}

// What was synced stays, over and over, whatever comes behind it.
func TestP703SyncedStays(t *testing.T) {
	r, d, synced := rand.New(rand.NewSource(703)), made(t, 1<<16), ""
	for i := range 20000 {
		c := someCall(byte(r.Intn(256)), byte(r.Intn(256)))
		answer := c.do(d)
		there := string(d.Bytes())
		if !strings.HasPrefix(there, synced) {
			t.Fatalf("call %d, %v: of %d synced bytes some are gone", i, c, len(synced))
		}
		if c.name == "Crash" || c.name == "Sync" && answer == "ok" {
			synced = there
		}
	}
	if len(synced) < 1<<15 {
		t.Fatalf("but %d bytes were synced", len(synced))
	}
}

// What stayed behind a crash is synced, and stays behind the next ones.
func TestP703StayedStays(t *testing.T) {
	d, want := made(t, 1000), ""
	for i := range 50 {
		d.Append([]byte("abc"))
		if i%3 == 1 {
			d.Stop(1)
			d.Append([]byte("defg"))
		}
		text := string(d.Bytes())[len(want):]
		n := d.Crash(i)
		want += text[:i%(len(text)+1)]
		for _, pick := range []int{0, 1, -1, i} {
			if again := d.Crash(pick); again != 0 || string(d.Bytes()) != want || n != i%(len(text)+1) {
				t.Fatalf("%d: %d, %d, %q, not %q", i, n, again, d.Bytes(), want)
			}
		}
	}
}

// Behind an answered Sync no crash takes what was there, wherever the power goes behind it.
func TestP703WhereverThePowerGoes(t *testing.T) {
	for n := range 8 {
		for pick := range 8 {
			d, synced := made(t, 100), ""
			d.Stop(n)
			for range 3 {
				d.Append([]byte("ab"))
				d.Append([]byte("c"))
				if d.Sync() == api.OK {
					synced = string(d.Bytes())
				}
			}
			for i := range 3 {
				d.Crash(pick * i)
				if !strings.HasPrefix(string(d.Bytes()), synced) {
					t.Fatalf("Stop(%d), pick %d: %q of %q", n, pick, d.Bytes(), synced)
				}
			}
		}
	}
}

// What is handed in is not kept: later changes of it, of its spare room too, change nothing.
func TestP2NotKept(t *testing.T) {
	for _, stop := range []int{0, 1} {
		d := made(t, 100)
		whole := []byte("abcdefghij")
		d.Stop(stop)
		d.Append(whole[:3])
		clear(whole)
		if string(d.Bytes()) != "abc" {
			t.Errorf("%q", d.Bytes())
		}
		d.Crash(3)
		copy(whole, "ABCDEFGHIJ")
		d.Append(whole[3:5])
		clear(whole)
		if d.Sync(); string(d.Bytes()) != "abcDE" {
			t.Errorf("%q", d.Bytes())
		}
	}
}

// Nor is it changed, nor its spare room, by that call or a later one.
func TestP2NotChanged(t *testing.T) {
	const text = "abcdefghij"
	for _, room := range []int{2, 3, 100} {
		for _, stop := range []int{0, 1, 2} {
			d, whole := made(t, room), []byte(text)
			d.Stop(stop)
			d.Append(whole[:3])
			d.Append([]byte("xy"))
			d.Crash(-2)
			d.Append([]byte("z"))
			d.Append(whole[:1])
			d.Append([]byte("uvw"))
			if string(whole) != text {
				t.Errorf("room %d, Stop(%d): %q", room, stop, whole)
			}
		}
	}
}

// Answers are new memory, their spare room too.
func TestP2Answers(t *testing.T) {
	d := made(t, 100)
	for _, text := range []string{"", "abc", "defghi", "j"} {
		d.Append([]byte(text))
		first, second := d.Bytes(), d.Bytes()
		want := string(first)
		for i := range first[:cap(first)] {
			first[:cap(first)][i] = '?'
		}
		if string(second) != want || string(d.Bytes()) != want {
			t.Errorf("%q, %q, not %q", second, d.Bytes(), want)
		}
		_ = append(second, "????????"...)
		d.Append([]byte("-"))
		if string(d.Bytes()) != want+"-" || string(second) != want {
			t.Errorf("%q, not %q", d.Bytes(), want+"-")
		}
		d.Crash(0)
		d.Append([]byte("+"))
		if string(second) != want {
			t.Errorf("an answer has become %q", second)
		}
		d.Crash(1)
	}
}

// What a disk says may be handed in to it again, and to another.
func TestP2OwnAnswers(t *testing.T) {
	d, other := made(t, 100), made(t, 100)
	d.Append([]byte("ab"))
	for range 4 {
		b := d.Bytes()
		d.Append(b)
		other.Append(b)
		b[0] = '?'
	}
	if string(d.Bytes()) != strings.Repeat("ab", 16) || string(other.Bytes()) != strings.Repeat("ab", 15) {
		t.Errorf("%q, %q", d.Bytes(), other.Bytes())
	}
}

// The same calls answer the same, also where other disks are asked between them.
func TestP3SameAgainAndP7Apart(t *testing.T) {
	r := rand.New(rand.NewSource(3))
	a, b, c := made(t, 300), made(t, 300), made(t, 300)
	for range 2000 {
		x, y := someCall(byte(r.Intn(256)), byte(r.Intn(256))), someCall(byte(r.Intn(256)), byte(r.Intn(256)))
		first := x.do(a)
		y.do(c)
		if second := x.do(b); first != second || look(a) != look(b) {
			t.Fatalf("%v: %s, %v, and %s, %v", x, first, look(a), second, look(b))
		}
	}
}

// Asking changes nothing.
func TestP5Asking(t *testing.T) {
	for _, stop := range []int{0, 1, 2, 3} {
		asked, not := made(t, 20), made(t, 20)
		calls := []call{appends("ab"), syncs(), appends("cd"), stops(stop), appends("ef"), syncs(), crashes(1), appends("g"), crashes(0)}
		for _, c := range calls {
			for range 3 {
				look(asked)
			}
			if first, second := c.do(asked), c.do(not); first != second || look(asked) != look(not) {
				t.Fatalf("Stop(%d), %v: %s, %s", stop, c, first, second)
			}
		}
	}
}

func FuzzP702Calls(f *testing.F) {
	f.Add(5, []byte{0, 3, 7, 2})
	f.Add(100, []byte{0, 3, 4, 0, 6, 8, 1, 20, 7, 255, 0, 1})
	f.Add(1<<24, []byte{6, 16, 0, 22, 4, 0, 7, 5, 4, 0})
	f.Add(0, []byte{})
	f.Fuzz(func(t *testing.T, room int, b []byte) {
		if room < 1 || room > 1<<24 {
			if d, e := New(room); e != api.ErrArg || d != nil {
				t.Fatalf("New(%d): %v", room, e)
			}
			return
		}
		var calls []call
		for i := 0; i+1 < min(len(b), 1000); i += 2 {
			calls = append(calls, someCall(b[i], b[i+1]))
		}
		run(t, room, calls...)
	})
}

func BenchmarkAppend(b *testing.B) {
	d, row := made(b, maxRoom), make([]byte, 8)
	for b.Loop() {
		if d.Append(row) == api.ErrFull {
			d.Crash(0)
		}
	}
}
