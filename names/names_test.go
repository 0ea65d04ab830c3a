package names

import (
	"slices"
	"strings"
	"testing"
	"unsafe"

	"lattice/api"
)

// decode tells the runes of a text, bit by bit as the promise says it, and whether the text is a row of them.
func decode(s string) ([]int, bool) {
	var runes []int
	for len(s) > 0 {
		n, value, least := shape(s[0])
		if n == 0 || n > len(s) {
			return nil, false
		}
		for _, b := range []byte(s[1:n]) {
			if b>>6 != 2 {
				return nil, false
			}
			value = value<<6 | int(b&0x3f)
		}
		if value < least || value > 0x10ffff || value >= 0xd800 && value <= 0xdfff {
			return nil, false
		}
		runes = append(runes, value)
		s = s[n:]
	}
	return runes, true
}

// shape is what a rune's first byte tells: how many bytes it has (0: it is no first byte), its highest bits, and the least rune that needs so many.
func shape(b byte) (n, value, least int) {
	switch {
	case b>>7 == 0:
		return 1, int(b), 0
	case b>>5 == 6:
		return 2, int(b & 0x1f), 0x80
	case b>>4 == 14:
		return 3, int(b & 0x0f), 0x800
	case b>>3 == 30:
		return 4, int(b & 0x07), 0x10000
	}
	return 0, 0, 0
}

// encode writes a number as a rune of n bytes, be it allowed or not.
func encode(value, n int) string {
	if n == 1 {
		return string([]byte{byte(value)})
	}
	b := make([]byte, n)
	for i := n - 1; i > 0; i-- {
		b[i] = 0x80 | byte(value&0x3f)
		value >>= 6
	}
	b[0] = byte(0xff<<(8-n)) | byte(value)
	return string(b)
}

// wantCheck is P301, said by whole rows of runes.
func wantCheck(name string) api.Errno {
	runes, is := decode(name)
	if !is {
		return api.ErrBad
	}
	if slices.Contains([]string{"", ".", ".."}, name) || slices.ContainsFunc(runes, func(r int) bool { return r == '/' || r < 32 || r == 127 }) {
		return api.ErrName
	}
	if len(runes) > 12 {
		return api.ErrLong
	}
	return api.OK
}

// wantSplit is P302's Split, said stroke by stroke.
func wantSplit(path string) ([]string, api.Errno) {
	if path == "/" {
		return nil, api.OK
	}
	if path == "" || path[0] != '/' || path[len(path)-1] == '/' {
		return nil, api.ErrName
	}
	var l []string
	for _, b := range []byte(path) {
		if b == '/' {
			l = append(l, "")
		} else {
			l[len(l)-1] += string([]byte{b})
		}
	}
	if e := wantList(l); e != api.OK {
		return nil, e
	}
	return l, api.OK
}

// wantList is the errors that Split and Join have in common.
func wantList(l []string) api.Errno {
	if len(l) > 5 {
		return api.ErrMany
	}
	for _, name := range l {
		if e := wantCheck(name); e != api.OK {
			return e
		}
	}
	return api.OK
}

// wantJoin is P302's Join.
func wantJoin(l []string) (string, api.Errno) {
	if e := wantList(l); e != api.OK {
		return "", e
	}
	path := ""
	for _, name := range l {
		path += "/" + name
	}
	if path == "" {
		path = "/"
	}
	return path, api.OK
}

func tryCheck(t *testing.T, name string, want api.Errno) {
	t.Helper()
	if got := Check(name); got != want {
		t.Errorf("Check(%q): %v, want %v", name, got, want)
	}
}

func trySplit(t *testing.T, path string, want []string, errno api.Errno) {
	t.Helper()
	if got, e := Split(path); e != errno || !slices.Equal(got, want) {
		t.Errorf("Split(%q): %q, %v, want %q, %v", path, got, e, want, errno)
	}
}

func tryJoin(t *testing.T, l []string, want string, errno api.Errno) {
	t.Helper()
	if got, e := Join(l); e != errno || got != want {
		t.Errorf("Join(%q): %q, %v, want %q, %v", l, got, e, want, errno)
	}
}

// pieces are names, what is none, and bytes, to be put together.
func pieces() []string {
	return []string{
		"", ".", "..", "...", "a", "\u00e9", "\u20ac", "\U0001f333", "\ufffd", " ", "~", "\x1f", "\x7f", "\u0080", "\x00",
		"\x80", "\xbf", "\xc3", "\xe2\x82", "\xf0\x9f\x8c", "\xff", "\xc0\xaf", "\xed\xa0\x80", "\xf4\x90\x80\x80", "\xef\xbf",
		"abcdefghijkl", "abcdefghijklm", "/",
	}
}

func TestP301Names(t *testing.T) {
	for _, name := range []string{
		"a", "Z", "0", " ", "~", "a b", "read.me", ".a", "a.", "..a", "a..", "...", "....", "\\", "*",
		"\u0080", "\u00e9", "\u20ac", "\ufffd", "\ufeff", "\uffff", "\U0001f333", "\U0010ffff", "e\u0301", "a\ufffdb",
	} {
		tryCheck(t, name, api.OK)
	}
}

func TestP301EveryRune(t *testing.T) {
	for r := range 0x110000 {
		if r >= 0xd800 && r <= 0xdfff {
			continue
		}
		want := api.OK
		if r < 32 || r == 127 || r == '/' || r == '.' {
			want = api.ErrName
		}
		tryCheck(t, string(rune(r)), want)
		if r != '.' {
			tryCheck(t, "a"+string(rune(r))+"b", want)
		}
	}
}

func TestP301EdgesOfRunes(t *testing.T) {
	for r, want := range map[rune]api.Errno{0: api.ErrName, 31: api.ErrName, 32: api.OK, '/': api.ErrName, '/' - 1: api.ErrName, '/' + 1: api.OK, 126: api.OK, 127: api.ErrName, 128: api.OK} {
		tryCheck(t, string(r), want)
	}
	tryCheck(t, "a.b-c0", api.OK)
	for _, last := range []rune{0, 31, 127, '/'} {
		tryCheck(t, "ab"+string(last), api.ErrName)
		tryCheck(t, string(last)+"ab", api.ErrName)
	}
}

func TestP301Dots(t *testing.T) {
	for name, want := range map[string]api.Errno{"": api.ErrName, ".": api.ErrName, "..": api.ErrName, "...": api.OK, ". ": api.OK, " .": api.OK, ".. ": api.OK, "\u2025": api.OK, "............": api.OK, ".............": api.ErrLong} {
		tryCheck(t, name, want)
	}
}

func TestP301Long(t *testing.T) {
	for _, one := range []string{"a", ".", "\u00e9", "\u20ac", "\ufffd", "\U0001f333", "\U0010ffff"} {
		for n := range 40 {
			want := api.OK
			if n == 0 || one == "." && n < 3 {
				want = api.ErrName
			} else if n > 12 {
				want = api.ErrLong
			}
			tryCheck(t, strings.Repeat(one, n), want)
		}
	}
	tryCheck(t, strings.Repeat("a", 1<<20), api.ErrLong)
	tryCheck(t, strings.Repeat("a", 1<<20)+"\xff", api.ErrBad)
}

func TestP301NoRowOfRunes(t *testing.T) {
	for _, name := range []string{
		"\x80", "\xbf", "\xc3", "\xe2\x82", "\xe2", "\xf0\x9f\x8c", "\xf0\x9f", "\xf0", "\xef\xbf", "\xef",
		"\xc3a", "\xe2\x82a", "\xe2a\x82", "\xf0\x9f\x8ca", "\xc3\xc3\xa9", "\xef\xbfa", "\u00e9\xa9", "\ufffd\xbd",
		"\xc0\x80", "\xc0\xae", "\xc0\xaf", "\xc1\xbf", "\xe0\x80\x80", "\xe0\x9f\xbf", "\xf0\x80\x80\x80", "\xf0\x8f\xbf\xbf", "\xf0\x8f\xbf\xbd",
		"\xed\xa0\x80", "\xed\xaf\xbf", "\xed\xb0\x80", "\xed\xbf\xbf", "\xed\xa0\xbd\xed\xb2\xa9",
		"\xf4\x90\x80\x80", "\xf5\x80\x80\x80", "\xf7\xbf\xbf\xbf", "\xf8\x88\x80\x80\x80", "\xfc\x84\x80\x80\x80\x80", "\xfe", "\xff",
	} {
		tryCheck(t, name, api.ErrBad)
		tryCheck(t, "ab"+name, api.ErrBad)
		tryCheck(t, "\ufffd"+name, api.ErrBad)
		tryCheck(t, name+"/", api.ErrBad)
	}
	for _, name := range []string{"\ud7ff", "\ue000", "\u007e", "\u0080", "\u07ff", "\u0800", "\uffff", "\U00010000", "\U0010ffff"} {
		tryCheck(t, name, api.OK)
		tryCheck(t, name[:len(name)-1]+"\xff", api.ErrBad)
	}
}

func TestP301EveryLength(t *testing.T) {
	most := []int{0, 0x7f, 0x7ff, 0xffff, 0x1fffff, 0x3ffffff, 0x7fffffff}
	for _, edge := range []int{0, '.', '/', 32, 'a', 0x7f, 0x80, 0x7ff, 0x800, 0xd7ff, 0xd800, 0xdbff, 0xdc00, 0xdfff, 0xe000, 0xfffd, 0xffff, 0x10000, 0x10ffff, 0x110000, 0x1fffff, 0x200000, 0x3ffffff, 0x4000000, 0x7fffffff} {
		for n := 1; n <= 6; n++ {
			if edge > most[n] {
				continue
			}
			name := encode(edge, n)
			least := edge <= 0x10ffff && (n == 1 || edge > most[n-1])
			if got := Check(name); (got != api.ErrBad) != (least && (edge < 0xd800 || edge > 0xdfff)) {
				t.Errorf("%x in %d bytes: %v", edge, n, got)
			}
			tryCheck(t, name, wantCheck(name))
		}
	}
}

func TestP301EveryFewBytes(t *testing.T) {
	for a := range 256 {
		tryCheck(t, string([]byte{byte(a)}), wantCheck(string([]byte{byte(a)})))
		for b := range 256 {
			two := string([]byte{byte(a), byte(b)})
			tryCheck(t, two, wantCheck(two))
			for _, more := range []string{"\x7f", "\x80", "\x8f", "\x90", "\x9f", "\xa0", "\xbd", "\xbf", "\xc0", "a", "\x80\x80", "\xbf\xbf", "\xbf\xbd", "\x80a", "\x80\x80\x80"} {
				tryCheck(t, two+more, wantCheck(two+more))
			}
		}
	}
}

func TestP301SeveralErrors(t *testing.T) {
	long := strings.Repeat("\u20ac", 12)
	for name, want := range map[string]api.Errno{
		"/\xff": api.ErrBad, "\xff/": api.ErrBad, "\x00\xff": api.ErrBad, "\xff\x7f": api.ErrBad, ".\xff": api.ErrBad, "..\xc3": api.ErrBad,
		long + "a\xff": api.ErrBad, "\xff" + long + "a": api.ErrBad, long + "/\xff": api.ErrBad, long + "\xe2\x82": api.ErrBad,
		long + "/": api.ErrName, "/" + long: api.ErrName, long + "aaa\x1f": api.ErrName, long + "\x7f": api.ErrName, long + long + "\x00": api.ErrName,
		long: api.OK, long + "a": api.ErrLong,
	} {
		tryCheck(t, name, want)
	}
	for _, a := range pieces() {
		for _, b := range pieces() {
			for _, c := range pieces() {
				tryCheck(t, a+b+c, wantCheck(a+b+c))
			}
		}
	}
}

func TestP302Examples(t *testing.T) {
	trySplit(t, "/a/b", []string{"a", "b"}, api.OK)
	trySplit(t, "//", nil, api.ErrName)
}

func TestP302Paths(t *testing.T) {
	long := strings.Repeat("\U0001f333", 12)
	for path, l := range map[string][]string{
		"/":                     nil,
		"/a":                    {"a"},
		"/...":                  {"..."},
		"/ / ":                  {" ", " "},
		"/\ufffd/\u00e9\u20ac":  {"\ufffd", "\u00e9\u20ac"},
		"/1/2/3/4/5":            {"1", "2", "3", "4", "5"},
		"/a/a/a/a/a":            {"a", "a", "a", "a", "a"},
		"/" + long + "/" + long: {long, long},
	} {
		trySplit(t, path, l, api.OK)
		tryJoin(t, l, path, api.OK)
	}
	tryJoin(t, []string{}, "/", api.OK)
}

func TestP302Strokes(t *testing.T) {
	for _, path := range []string{
		"", "a", "a/b", "a/", "/a/", "/a/b/", "//", "///", "//////", "///////", "//a", "//a/b", "/a//b", "/a///b", "a//b", "/a//", " /a", "./a", "\\a",
		"/1/2/3/4/5/", "/1/2/3/4/5/6/", "1/2/3/4/5/6", "1/2/3/4/5/6/7", "\u2215a", "a\x00",
	} {
		trySplit(t, path, nil, api.ErrName)
	}
}

func TestP302Many(t *testing.T) {
	for n := range 12 {
		want := api.OK
		if n > 5 {
			want = api.ErrMany
		}
		path := strings.Repeat("/a", n)
		if n == 0 {
			path = "/"
		}
		if l, e := Split(path); e != want || want == api.OK && len(l) != n {
			t.Errorf("Split of %d names: %q, %v", n, l, e)
		}
		if _, e := Join(slices.Repeat([]string{"a"}, n)); e != want {
			t.Errorf("Join of %d names: %v", n, e)
		}
	}
	trySplit(t, strings.Repeat("/a", 1<<20), nil, api.ErrMany)
	trySplit(t, strings.Repeat("/", 1<<20)+"a", nil, api.ErrMany)
	tryJoin(t, make([]string, 1<<20), "", api.ErrMany)
}

func TestP302CheckOfEach(t *testing.T) {
	for _, bad := range pieces() {
		want := wantCheck(bad)
		for at := range 5 {
			l := []string{"1", "2", "3", "4", "5"}
			l[at] = bad
			path, e := Join(l)
			if e != want || (path == "") != (want != api.OK) {
				t.Errorf("Join(%q): %q, %v, want %v", l, path, e, want)
			}
			raw := "/" + strings.Join(l, "/")
			names, errno := wantSplit(raw)
			trySplit(t, raw, names, errno)
		}
	}
	trySplit(t, "/./a", nil, api.ErrName)
	trySplit(t, "/a/..", nil, api.ErrName)
	trySplit(t, "/a\x1fb", nil, api.ErrName)
	trySplit(t, "/abcdefghijklm", nil, api.ErrLong)
	trySplit(t, "/a/\xff", nil, api.ErrBad)
	tryJoin(t, []string{"a/b"}, "", api.ErrName)
	tryJoin(t, []string{"/"}, "", api.ErrName)
	tryJoin(t, []string{""}, "", api.ErrName)
	tryJoin(t, []string{"", ""}, "", api.ErrName)
}

// A rune is not put together over a stroke, and no stroke is found within one.
func TestP302StrokesAndRunes(t *testing.T) {
	trySplit(t, "/\xc3/\xa9", nil, api.ErrBad)
	trySplit(t, "/a\xe2\x82/b", nil, api.ErrBad)
	trySplit(t, "/a\xc0\xafb", nil, api.ErrBad)
	tryJoin(t, []string{"\xc3", "\xa9"}, "", api.ErrBad)
	trySplit(t, "/\u012f/\u2f2f", []string{"\u012f", "\u2f2f"}, api.OK)
}

func TestP302SeveralErrors(t *testing.T) {
	for path, want := range map[string]api.Errno{
		"\xff": api.ErrName, "/\xff/": api.ErrName, "\xff/1/2/3/4/5/6": api.ErrName, "/1/2/3/4/5/6/\xff/": api.ErrName, "/abcdefghijklm/": api.ErrName,
		"/1/2/3/4/5/\xff": api.ErrMany, "/\xff/2/3/4/5/6": api.ErrMany, "/1//3/4/5/6": api.ErrMany, "//2/3/4/5/6": api.ErrMany, "/abcdefghijklm/2/3/4/5/6": api.ErrMany,
		"/abcdefghijklm/\xff": api.ErrLong, "/abcdefghijklm/.": api.ErrLong, "/\xff/.": api.ErrBad, "/./\xff": api.ErrName, "/../abcdefghijklm": api.ErrName, "/\xff/abcdefghijklm": api.ErrBad, "//\xff": api.ErrName,
	} {
		trySplit(t, path, nil, want)
	}
	for _, c := range []struct {
		l    []string
		want api.Errno
	}{
		{[]string{"\xff", "2", "3", "4", "5", "6"}, api.ErrMany},
		{[]string{"1", "2", "3", "4", "5", ""}, api.ErrMany},
		{[]string{"", "", "", "", "", ""}, api.ErrMany},
		{[]string{"abcdefghijklm", "\xff"}, api.ErrLong},
		{[]string{"abcdefghijklm", "/"}, api.ErrLong},
		{[]string{"a", "", "\xff"}, api.ErrName},
		{[]string{"a", "\xff", ""}, api.ErrBad},
	} {
		tryJoin(t, c.l, "", c.want)
	}
}

func TestP303ThereAndBack(t *testing.T) {
	var good []string
	for _, a := range pieces() {
		if wantCheck(a) == api.OK {
			good = append(good, a)
		}
	}
	lists := [][]string{nil}
	for n := 0; n < 3; n++ {
		for _, l := range lists[len(lists)-power(len(good), n):] {
			for _, name := range good {
				lists = append(lists, append(slices.Clone(l), name))
			}
		}
	}
	seen := map[string][]string{}
	for _, l := range lists {
		path, e := Join(l)
		if e != api.OK {
			t.Fatalf("Join(%q): %v", l, e)
		}
		if other, is := seen[path]; is {
			t.Errorf("%q and %q have one path", other, l)
		}
		seen[path] = l
		trySplit(t, path, l, api.OK)
	}
}

func power(a, n int) int {
	p := 1
	for range n {
		p *= a
	}
	return p
}

func TestP303BackAndThere(t *testing.T) {
	whole := 0
	for _, a := range pieces() {
		for _, b := range pieces() {
			for _, c := range pieces() {
				path := "/" + a + "/" + b + c
				want, errno := wantSplit(path)
				trySplit(t, path, want, errno)
				if errno == api.OK {
					whole++
					tryJoin(t, want, path, api.OK)
				}
			}
		}
	}
	if whole == 0 {
		t.Error("no path was split")
	}
}

func TestP2ListIsNotChanged(t *testing.T) {
	for _, names := range [][]string{{"a", "b"}, {"a", "/"}, {"1", "2", "3", "4", "5", "6"}, {}} {
		room := append(slices.Clone(names), "spare", "room")
		before := slices.Clone(room)
		Join(room[:len(names)])
		if !slices.Equal(room, before) {
			t.Errorf("Join changed %q to %q", before, room)
		}
	}
}

func TestP2AnswersAreNew(t *testing.T) {
	path := "/ab/cd"
	one, _ := Split(path)
	for i := range one[:cap(one)] {
		one[:cap(one)][i] = "changed"
	}
	trySplit(t, path, []string{"ab", "cd"}, api.OK)
	two, _ := Split(path)
	first := uintptr(unsafe.Pointer(unsafe.StringData(path)))
	for _, name := range two {
		if at := uintptr(unsafe.Pointer(unsafe.StringData(name))); at >= first && at < first+uintptr(len(path)) {
			t.Errorf("%q lies within the path's memory", name)
		}
	}
}

func FuzzP301Check(f *testing.F) {
	for _, name := range pieces() {
		f.Add(name)
	}
	f.Fuzz(func(t *testing.T, name string) { tryCheck(t, name, wantCheck(name)) })
}

func FuzzP302Split(f *testing.F) {
	for _, path := range []string{"/", "/a/b", "//", "/a//b", "/1/2/3/4/5/6", "/\xff/.", "a/", "/\ufffd"} {
		f.Add(path)
	}
	f.Fuzz(func(t *testing.T, path string) {
		want, errno := wantSplit(path)
		trySplit(t, path, want, errno)
		if errno == api.OK {
			tryJoin(t, want, path, api.OK)
		}
	})
}

func FuzzP302Join(f *testing.F) {
	f.Add("a", "b", "c", 3)
	f.Add("", "\xff", "/", 6)
	f.Fuzz(func(t *testing.T, a, b, c string, n int) {
		three := []string{a, b, c}
		var l []string
		for i := range min(max(n, 0), 8) {
			l = append(l, three[i%3])
		}
		want, errno := wantJoin(l)
		tryJoin(t, l, want, errno)
		if errno == api.OK {
			trySplit(t, want, l, api.OK)
		}
	})
}
