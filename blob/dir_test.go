package blob

import (
	"fmt"
	"math/rand"
	"slices"
	"strings"
	"testing"

	"lattice/api"
)

// entries are of those names, each with a node of its own.
func entries(texts ...string) []api.Entry {
	var l []api.Entry
	for i, name := range texts {
		l = append(l, api.Entry{Name: name, Node: nth(i + 1)})
	}
	return l
}

// rising is so many entries, in order.
func rising(count int) []api.Entry {
	var texts []string
	for k := range count {
		texts = append(texts, fmt.Sprintf("n%03d", k))
	}
	return entries(texts...)
}

// written is the bytes that entries would have, whether they may be or not. (A name's length counts modulo 256.)
func written(l []api.Entry) []byte {
	digits := ""
	for _, x := range l {
		digits += fmt.Sprintf("%02x%x%x", len(x.Name)%256, x.Name, x.Node[:])
	}
	return raw(digits)
}

// tryBoth asks for a directory of the entries, and reads the bytes that would be theirs.
func tryBoth(t testing.TB, l []api.Entry, want api.Errno) {
	t.Helper()
	if b, e := Dir(l); e != want || e != api.OK && len(b) != 0 {
		t.Fatalf("Dir(%.300q): %x, %v, not %v", l, b, e, want)
	}
	tryDir(t, l)
	if slices.ContainsFunc(l, func(x api.Entry) bool { return len(x.Name) > 255 }) {
		return
	}
	b := written(l)
	if got, e := ParseDir(b); e != want || e != api.OK && len(got) != 0 {
		t.Fatalf("ParseDir(%.300x): %v, %v, not %v", b, got, e, want)
	}
	tryParseDir(t, b)
	if len(b) > 0 {
		got, e := ParseDir(b[:len(b)-1])
		tryRead(t, b[:len(b)-1], flat(got), e, []api.Entry{}, api.ErrCut)
	}
}

func TestP903WrittenOut(t *testing.T) {
	for digits, l := range map[string][]api.Entry{
		"":                              nil,
		"01 61" + steps:                 {{Name: "a", Node: idOf(steps)}},
		"01 61" + zeros:                 {{Name: "a"}},
		"02 6162" + back:                {{Name: "ab", Node: idOf(back)}},
		"01 41" + back + "01 61" + back: {{Name: "A", Node: idOf(back)}, {Name: "a", Node: idOf(back)}},
		"01 61" + steps + "02 6120" + back + "03 e282ac" + zeros:      {{Name: "a", Node: idOf(steps)}, {Name: "a ", Node: idOf(back)}, {Name: "\u20ac"}},
		"03 e282ac" + steps + "04 f09f9880" + back:                    {{Name: "\u20ac", Node: idOf(steps)}, {Name: "\U0001f600", Node: idOf(back)}},
		"30" + strings.Repeat("f48fbfbf", 12) + steps:                 {{Name: strings.Repeat("\U0010ffff", 12), Node: idOf(steps)}},
		"0c" + strings.Repeat("78", 12) + steps:                       {{Name: "xxxxxxxxxxxx", Node: idOf(steps)}},
		"07 72656164 2e6d65" + steps + "08 72656164 2e6d6578" + zeros: {{Name: "read.me", Node: idOf(steps)}, {Name: "read.mex"}},
		"03 2e2e2e" + steps + "01 5c" + back + "03 efbfbd" + zeros:    {{Name: "...", Node: idOf(steps)}, {Name: "\\", Node: idOf(back)}, {Name: "\ufffd"}},
	} {
		b, e := Dir(l)
		tryWritten(t, l, b, e, digits, api.OK)
		got, e := ParseDir(raw(digits))
		tryRead(t, b, flat(got), e, flat(l), api.OK)
	}
}

func TestP903Counts(t *testing.T) {
	for count := range 30 {
		want := api.OK
		if count > 20 {
			want = api.ErrMany
		}
		tryBoth(t, rising(count), want)
	}
	tryBoth(t, rising(300), api.ErrMany)
}

// wrongNames are none, by the error that they have.
var wrongNames = map[api.Errno][]string{
	api.ErrBad:  {"\xff", "a\xff", "\x80", "\xc0\x80", "\xc1\xbf", "\xe0\x80\x80", "\xed\xa0\x80", "\xed\xbf\xbf", "\xf4\x90\x80\x80", "\xf8\x88\x80\x80\x80", "\xe2\x82", "/\xff", strings.Repeat("x", 20) + "\xff", strings.Repeat("x", 254) + "\xff", strings.Repeat("\xff", 255), strings.Repeat("x", 255) + "\xff"},
	api.ErrName: {"", ".", "..", "/", "a/b", "/a", "a/", "\x00", "a\x00", "\x1f", "\n", "\x7f", "a\x7fb", strings.Repeat("x", 20) + "/", strings.Repeat("/", 255), strings.Repeat("/", 256)},
	api.ErrLong: {"xxxxxxxxxxxxx", strings.Repeat("\u20ac", 13), strings.Repeat("\U0010ffff", 13), strings.Repeat("x", 254), strings.Repeat("x", 255), strings.Repeat("x", 256), strings.Repeat("x", 257), strings.Repeat("x", 1000)},
}

func TestP903WrongNames(t *testing.T) {
	for want, texts := range wrongNames {
		for _, name := range texts {
			tryBoth(t, entries(name), want)
			tryBoth(t, entries("a", name), want)
			tryBoth(t, entries(name, "a"), want)
			tryBoth(t, entries("b", "a", name), want)
			tryBoth(t, entries(name, name), want)
			tryBoth(t, append(rising(21), api.Entry{Name: name}), want)
			tryBoth(t, append(rising(20), api.Entry{Name: name}), want)
			tryBoth(t, append(entries("z", "z"), append(rising(21), api.Entry{Name: name})...), want)
		}
	}
}

// Of several names that are none the first counts.
func TestP903FirstWrongName(t *testing.T) {
	for one, firsts := range wrongNames {
		for _, others := range wrongNames {
			for _, first := range firsts {
				tryBoth(t, entries(first, others[0], "a"), one)
				tryBoth(t, entries("a", first, "0", others[0]), one)
			}
		}
	}
}

func TestP903LongestNames(t *testing.T) {
	var l []api.Entry
	for k := range 20 {
		l = append(l, api.Entry{Name: strings.Repeat("\U0010ffff", 11) + string(rune(0x10ffff-19+k)), Node: nth(k)})
	}
	tryBoth(t, l, api.OK)
	b, e := Dir(l)
	if e != api.OK || len(b) != 20*(1+48+32) {
		t.Errorf("%d, %v", len(b), e)
	}
	slices.Reverse(l)
	tryBoth(t, l, api.ErrArg)
}

func TestP903Order(t *testing.T) {
	for _, x := range []struct {
		l    []string
		want api.Errno
	}{
		{[]string{"a", "b"}, api.OK},
		{[]string{"b", "a"}, api.ErrArg},
		{[]string{"a", "a"}, api.ErrArg},
		{[]string{"a", "b", "b"}, api.ErrArg},
		{[]string{"a", "b", "a"}, api.ErrArg},
		{[]string{"a", "c", "b", "d"}, api.ErrArg},
		{[]string{"a", "aa", "ab", "b"}, api.OK},
		{[]string{"aa", "a"}, api.ErrArg},
		{[]string{"b", "aa"}, api.ErrArg},
		{[]string{"A", "B", "a"}, api.OK},
		{[]string{"a", "B"}, api.ErrArg},
		{[]string{"10", "9"}, api.OK},
		{[]string{"9", "10"}, api.ErrArg},
		{[]string{"z", "\u00e4"}, api.OK},
		{[]string{"\u00e4", "z"}, api.ErrArg},
		{[]string{"\uffff", "\U00010000"}, api.OK}, // as pairs of 16 bits they would fall
		{[]string{"\U00010000", "\uffff"}, api.ErrArg},
		{[]string{"e\u0301", "\u00e9"}, api.OK},
		{[]string{"a b", "a"}, api.ErrArg},
		{[]string{"a", "a b", "a-b", "aB"}, api.OK},
	} {
		tryBoth(t, entries(x.l...), x.want)
	}
}

// Each pair of neighbours counts, and nothing but the names.
func TestP903OrderEachPlace(t *testing.T) {
	for count := 2; count <= 22; count++ {
		want := api.OK
		if count > 20 {
			want = api.ErrMany
		}
		same := rising(count)
		for i := range same {
			same[i].Node = nth(0)
		}
		tryBoth(t, same, want)
		for at := 1; at < count; at++ {
			l := rising(count)
			l[at-1], l[at] = l[at], l[at-1]
			tryBoth(t, l, api.ErrArg)
			l = rising(count)
			l[at].Name = l[at-1].Name
			tryBoth(t, l, api.ErrArg)
		}
	}
}

func TestP903ParseCut(t *testing.T) {
	for _, l := range [][]api.Entry{entries("a"), entries("a", "b", "ccc"), entries(strings.Repeat("\U0010ffff", 12)), rising(20), rising(22), entries("b", "a"), entries("", "a"), entries("\xff", "a"), entries(strings.Repeat("x", 255), "a")} {
		b := written(l)
		ends := map[int]bool{0: true}
		for k := range l {
			ends[len(written(l[:k+1]))] = true
		}
		for k := range len(b) + 1 {
			got, e := ParseDir(b[:k])
			if (e == api.ErrCut) != !ends[k] || e != api.OK && len(got) != 0 {
				t.Fatalf("%.300x: %d: %v", b, k, e)
			}
			tryParseDir(t, b[:k])
		}
	}
}

// A length alone, and more or less behind it than it says.
func TestP903ParseLengths(t *testing.T) {
	for length := range 256 {
		for behind := range 300 {
			b := append([]byte{byte(length)}, strings.Repeat("x", behind)...)
			tryParseDir(t, b)
			if _, e := ParseDir(b); behind < length+32 && e != api.ErrCut {
				t.Fatalf("%d, %d: %v", length, behind, e)
			}
		}
	}
}

func TestP903ParseEveryByte(t *testing.T) {
	for _, l := range [][]api.Entry{entries("a"), entries("a", "b"), entries("a", "\u20ac", "\U0001f600x")} {
		tryEveryByte(t, written(l), tryParseDir)
	}
}

func TestP905Dir(t *testing.T) {
	r := rand.New(rand.NewSource(903))
	runes := []rune("ab/.\u00e4\u20ac\U0001f600\x1f\x7f")
	for range 6000 {
		var texts []string
		for range r.Intn(24) {
			name := ""
			for range 1 + r.Intn(13) {
				name += string(runes[r.Intn(len(runes))>>r.Intn(3)])
			}
			texts = append(texts, name)
		}
		if r.Intn(4) > 0 {
			slices.Sort(texts)
			texts = slices.Compact(texts)
		}
		if r.Intn(4) > 0 {
			texts = slices.DeleteFunc(texts, func(s string) bool { return strings.ContainsAny(s, "/\x1f\x7f") || s == "." || s == ".." })
		}
		l := entries(texts...)
		tryDir(t, l)
		b := written(l)
		tryParseDir(t, b)
		if len(b) > 0 {
			b[r.Intn(len(b))] = byte(r.Intn(256))
			tryParseDir(t, b)
			tryParseDir(t, b[:r.Intn(len(b))])
		}
	}
}
