package wire

import (
	"bytes"
	"encoding/binary"
	"math"
	"reflect"
	"slices"
	"strings"
	"testing"

	"lattice/api"
)

// rows is the chapter's table anew: P Pred, L List, N Node, E Err, K Key, D Done, B Data, T Lease.
var rows = map[int]string{
	api.KInfo: "", api.KTold: "PL", api.KNotify: "N", api.KDone: "E", api.KNext: "K", api.KGet: "K", api.KFind: "K",
	api.KWay: "DL", api.KHave: "EB", api.KPut: "KBNT", api.KCache: "KB", api.KSet: "BNT",
}

var noKinds = []int{0, -1, -12, 13, 14, 77, 255, 256, 257, 268, 1<<16 + 3, 1<<32 + 3, math.MaxInt, math.MinInt, math.MinInt + 3}

func isNode(n int) bool { return n >= 0 && n <= 9 }

// wantPart is a part's bytes, or why it may not be.
func wantPart(p rune, m api.Msg) (string, api.Errno) {
	arg := func(is bool, text string) (string, api.Errno) {
		if !is {
			return "", api.ErrArg
		}
		return text, api.OK
	}
	switch p {
	case 'P':
		if m.Pred == -1 {
			return "\xff", api.OK
		}
		return arg(isNode(m.Pred), string([]byte{byte(m.Pred)}))
	case 'N':
		return arg(isNode(m.Node), string([]byte{byte(m.Node)}))
	case 'E':
		return arg(m.Err >= 0 && m.Err <= 20, string([]byte{byte(m.Err)}))
	case 'T':
		return arg(m.Lease >= 1 && m.Lease <= 1000, string(binary.BigEndian.AppendUint32(nil, uint32(m.Lease))))
	case 'K':
		return string(m.Key[:]), api.OK
	case 'D':
		if m.Done {
			return "\x01", api.OK
		}
		return "\x00", api.OK
	case 'B':
		if len(m.Data) > 6000 {
			return "", api.ErrLong
		}
		return string(binary.BigEndian.AppendUint16(nil, uint16(len(m.Data)))) + string(m.Data), api.OK
	case 'L':
		if len(m.List) > 10 {
			return "", api.ErrMany
		}
		b := []byte{byte(len(m.List))}
		for _, n := range m.List {
			b = append(b, byte(n))
		}
		return arg(!slices.ContainsFunc(m.List, func(n int) bool { return !isNode(n) }), string(b))
	}
	panic("no part")
}

// wantEncode is P401's Encode.
func wantEncode(m api.Msg) (string, api.Errno) {
	row, is := rows[m.Kind]
	if !is {
		return "", api.ErrKind
	}
	s := string([]byte{byte(m.Kind)})
	for _, p := range row {
		text, e := wantPart(p, m)
		if e != api.OK {
			return "", e
		}
		s += text
	}
	return s, api.OK
}

// step is what may stand at the next byte, and what is asked behind it.
type step func(b byte) (bad bool, next step)

// skip asks for n bytes of any kind, then for what is behind them.
func skip(n int, then step) step {
	if n == 0 {
		return then
	}
	return func(byte) (bool, step) { return false, skip(n-1, then) }
}

// count asks for a number of n bytes from least to most, told to then.
func count(n, sofar, least, most int, then func(n int) step) step {
	return func(b byte) (bool, step) {
		sofar := sofar*256 + int(b)
		if n > 1 {
			return false, count(n-1, sofar, least, most, then)
		}
		return sofar < least || sofar > most, then(sofar)
	}
}

func nodes(n int, then step) step {
	if n == 0 {
		return then
	}
	return func(b byte) (bool, step) { return b > 9, nodes(n-1, then) }
}

// steps is what a row asks byte by byte; nil: nothing more.
func steps(row string) step {
	if row == "" {
		return nil
	}
	then := steps(row[1:])
	always := func(int) step { return then }
	switch row[0] {
	case 'P':
		return func(b byte) (bool, step) { return b > 9 && b < 255, then }
	case 'N':
		return nodes(1, then)
	case 'E':
		return count(1, 0, 0, 20, always)
	case 'D':
		return count(1, 0, 0, 1, always)
	case 'T':
		return count(4, 0, 1, 1000, always)
	case 'K':
		return skip(32, then)
	case 'L':
		return count(1, 0, 0, 10, func(n int) step { return nodes(min(n, 10), then) })
	}
	return count(2, 0, 0, 6000, func(n int) step { return skip(min(n, 6000), then) })
}

// wantParse is P401's Parse's error, byte by byte.
func wantParse(b []byte) api.Errno {
	if len(b) == 0 {
		return api.ErrCut
	}
	row, is := rows[int(b[0])]
	if !is {
		return api.ErrKind
	}
	next := steps(row)
	for _, x := range b[1:] {
		if next == nil {
			return api.ErrMore
		}
		var bad bool
		if bad, next = next(x); bad {
			return api.ErrBad
		}
	}
	if next != nil {
		return api.ErrCut
	}
	return api.OK
}

// plain is a message whose lists are nil where they are empty.
func plain(m api.Msg) api.Msg {
	if len(m.List) == 0 {
		m.List = nil
	}
	if len(m.Data) == 0 {
		m.Data = nil
	}
	return m
}

// named is a message with nothing but what its row names.
func named(m api.Msg) api.Msg {
	n := api.Msg{Kind: m.Kind}
	for _, p := range rows[m.Kind] {
		switch p {
		case 'P':
			n.Pred = m.Pred
		case 'N':
			n.Node = m.Node
		case 'L':
			n.List = m.List
		case 'E':
			n.Err = m.Err
		case 'D':
			n.Done = m.Done
		case 'K':
			n.Key = m.Key
		case 'B':
			n.Data = m.Data
		case 'T':
			n.Lease = m.Lease
		}
	}
	return plain(n)
}

// shown is a row of bytes, short enough to be told.
func shown(b []byte) []byte { return b[:min(len(b), 60)] }

func tryEncode(t *testing.T, m api.Msg, want string, errno api.Errno) {
	t.Helper()
	if b, e := Encode(m); e != errno || string(b) != want {
		m.Data = shown(m.Data)
		t.Errorf("Encode(%+v): %x (%d), %v, want %x (%d), %v", m, shown(b), len(b), e, shown([]byte(want)), len(want), errno)
	}
}

func tryRefuse(t *testing.T, b string, errno api.Errno) {
	t.Helper()
	if m, e := Parse([]byte(b)); e != errno || !reflect.DeepEqual(plain(m), api.Msg{}) {
		t.Errorf("Parse(%x): %+v, %v, want %v", shown([]byte(b)), m, e, errno)
	}
}

// tryParse holds Parse against wantParse, and what it reads against Encode.
func tryParse(t *testing.T, b []byte) {
	t.Helper()
	want := wantParse(b)
	if want != api.OK {
		tryRefuse(t, string(b), want)
		return
	}
	m, e := Parse(b)
	if e != api.OK || !reflect.DeepEqual(plain(m), named(m)) {
		t.Errorf("Parse(%x): %+v, %v", shown(b), m, e)
	}
	tryEncode(t, m, string(b), api.OK)
	if again, errno := wantEncode(m); errno != api.OK || again != string(b) {
		t.Errorf("Parse(%x): %+v", shown(b), m)
	}
}

// full is a message with all fields set to what may be.
func full(kind int) api.Msg {
	return api.Msg{Kind: kind, Node: 7, Pred: 8, List: []int{9, 0, 3, 3}, Done: true, Key: aKey(), Data: []byte("some\x00"), Lease: 0x0203, Err: api.ErrBad}
}

// worst is a message with all fields set to what may not be.
func worst(kind int) api.Msg {
	return api.Msg{Kind: kind, Node: -1, Pred: -2, List: make([]int, 11), Data: make([]byte, 6001), Err: 21}
}

func aKey() (key api.Id) {
	for i := range key {
		key[i] = byte(200 + 2*i)
	}
	return key
}

func TestP401Example(t *testing.T) {
	tryEncode(t, api.Msg{Kind: api.KNotify, Node: 3}, "\x03\x03", api.OK)
	if m, e := Parse([]byte{3, 3}); e != api.OK || m.Kind != api.KNotify || m.Node != 3 {
		t.Errorf("%+v, %v", m, e)
	}
}

func TestP401Rows(t *testing.T) {
	aKey := aKey()
	key, no := string(aKey[:]), string(make([]byte, 32))
	for kind, want := range map[int][2]string{
		1:  {"\x01", "\x01"},
		2:  {"\x02\x08\x04\x09\x00\x03\x03", "\x02\xff\x00"},
		3:  {"\x03\x07", "\x03\x00"},
		4:  {"\x04\x0b", "\x04\x00"},
		5:  {"\x05" + key, "\x05" + no},
		6:  {"\x06\x01\x04\x09\x00\x03\x03", "\x06\x00\x00"},
		7:  {"\x07" + key, "\x07" + no},
		8:  {"\x08\x0b\x00\x05some\x00", "\x08\x00\x00\x00"},
		9:  {"\x09" + key + "\x00\x05some\x00\x07\x00\x00\x02\x03", "\x09" + no + "\x00\x00\x00\x00\x00\x00\x01"},
		10: {"\x0a" + key + "\x00\x05some\x00", "\x0a" + no + "\x00\x00"},
		11: {"\x0b" + key, "\x0b" + no},
		12: {"\x0c\x00\x05some\x00\x07\x00\x00\x02\x03", "\x0c\x00\x00\x00\x00\x00\x00\x01"},
	} {
		for i, m := range []api.Msg{full(kind), {Kind: kind, Pred: -1, Lease: 1}} {
			tryEncode(t, m, want[i], api.OK)
			got, e := Parse([]byte(want[i]))
			if e != api.OK || !reflect.DeepEqual(plain(got), named(m)) {
				t.Errorf("Parse(%x): %+v, %v, want %+v", want[i], got, e, named(m))
			}
		}
	}
}

func TestP401EncodeKind(t *testing.T) {
	for _, kind := range noKinds {
		tryEncode(t, full(kind), "", api.ErrKind)
		tryEncode(t, worst(kind), "", api.ErrKind)
	}
	for kind := -300; kind <= 600; kind++ {
		if _, e := Encode(full(kind)); (e == api.ErrKind) != (kind < 1 || kind > 12) {
			t.Errorf("%d: %v", kind, e)
		}
	}
}

func TestP401EncodeNodes(t *testing.T) {
	for n, want := range map[int][3]string{-1: {"\xff"}, 0: {"\x00", "\x00", "\x00"}, 1: {"\x01", "\x01", "\x01"}, 9: {"\x09", "\x09", "\x09"}, -2: {}, 10: {}, 11: {}, 255: {}, 256: {}, 265: {}, -255: {}, -256: {}, 1<<32 - 1: {}, 1 << 32: {}, math.MinInt: {}, math.MaxInt: {}} {
		for i, head := range []string{"\x02", "\x03", "\x06\x00\x01"} {
			text, errno := "", api.ErrArg
			if want[i] != "" {
				text, errno = head+want[i], api.OK
			}
			if i == 0 && errno == api.OK {
				text += "\x00"
			}
			tryEncode(t, api.Msg{Kind: []int{api.KTold, api.KNotify, api.KWay}[i], Pred: n, Node: n, List: [][]int{nil, nil, {n}}[i]}, text, errno)
		}
		if !isNode(n) {
			for _, kind := range []int{api.KPut, api.KSet} {
				tryEncode(t, api.Msg{Kind: kind, Node: n, Lease: 1}, "", api.ErrArg)
			}
			for at := range 10 {
				l := make([]int, 10)
				l[at] = n
				tryEncode(t, api.Msg{Kind: api.KTold, List: l}, "", api.ErrArg)
			}
		}
	}
}

func TestP401EncodeErr(t *testing.T) {
	for _, err := range []api.Errno{-1, 0, 1, 19, 20, 21, 255, 256, -255, 1 << 32, math.MinInt, math.MaxInt} {
		for _, kind := range []int{api.KDone, api.KHave} {
			want, errno := wantEncode(api.Msg{Kind: kind, Err: err})
			if (errno == api.OK) != (err >= 0 && err <= 20) {
				t.Fatalf("%d: %v", err, errno)
			}
			tryEncode(t, api.Msg{Kind: kind, Err: err}, want, errno)
		}
	}
}

func TestP401EncodeLists(t *testing.T) {
	for n := range 300 {
		errno := api.OK
		if n > 10 {
			errno = api.ErrMany
		}
		for kind, head := range map[int]string{api.KTold: "\x02\x00", api.KWay: "\x06\x00"} {
			want := ""
			if errno == api.OK {
				want = head + string([]byte{byte(n)}) + strings.Repeat("\x05", n)
			}
			tryEncode(t, api.Msg{Kind: kind, List: slices.Repeat([]int{5}, n)}, want, errno)
		}
	}
	tryEncode(t, api.Msg{Kind: api.KWay, List: []int{0, 1, 2, 3, 4, 5, 6, 7, 8, 9}}, "\x06\x00\x0a\x00\x01\x02\x03\x04\x05\x06\x07\x08\x09", api.OK)
	tryEncode(t, api.Msg{Kind: api.KWay, List: make([]int, 1<<16)}, "", api.ErrMany)
}

func TestP401EncodeData(t *testing.T) {
	for _, n := range []int{0, 1, 255, 256, 257, 5999, 6000, 6001, 1 << 16, 1<<16 + 1, 1 << 20} {
		for _, kind := range []int{api.KHave, api.KPut, api.KCache, api.KSet} {
			m := api.Msg{Kind: kind, Data: bytes.Repeat([]byte{0xa5}, n), Lease: 1}
			want, errno := wantEncode(m)
			if (errno == api.ErrLong) != (n > 6000) {
				t.Fatalf("%d: %v", n, errno)
			}
			tryEncode(t, m, want, errno)
		}
	}
	tryEncode(t, api.Msg{Kind: api.KHave, Data: make([]byte, 6000)}, "\x08\x00\x17\x70"+string(make([]byte, 6000)), api.OK)
}

func TestP401EncodeLease(t *testing.T) {
	for lease, want := range map[int]string{1: "\x00\x00\x00\x01", 255: "\x00\x00\x00\xff", 256: "\x00\x00\x01\x00", 999: "\x00\x00\x03\xe7", 1000: "\x00\x00\x03\xe8", 0: "", -1: "", -1000: "", 1001: "", 1 << 31: "", 1<<32 - 1: "", 1 << 32: "", 1<<32 + 1: "", 1<<40 + 500: "", -1<<32 + 1: "", math.MinInt: "", math.MinInt + 1: "", math.MaxInt: ""} {
		errno := api.OK
		if want == "" {
			errno = api.ErrArg
		}
		for kind, head := range map[int]string{api.KSet: "\x0c\x00\x00\x04", api.KPut: "\x09" + string(make([]byte, 32)) + "\x00\x00\x04"} {
			if errno == api.ErrArg {
				head = ""
			}
			tryEncode(t, api.Msg{Kind: kind, Node: 4, Lease: lease}, head+want, errno)
		}
	}
}

func TestP401EncodeSeveralErrors(t *testing.T) {
	eleven, long := make([]int, 11), make([]byte, 6001)
	for _, c := range []struct {
		m    api.Msg
		want api.Errno
	}{
		{api.Msg{Kind: api.KTold, Pred: 10, List: eleven}, api.ErrArg},
		{api.Msg{Kind: api.KTold, Pred: -2, List: []int{10}}, api.ErrArg},
		{api.Msg{Kind: api.KTold, Pred: -1, List: eleven}, api.ErrMany},
		{api.Msg{Kind: api.KTold, List: []int{-1, 1, 2, 3, 4, 5, 6, 7, 8, 9, 10}}, api.ErrMany},
		{api.Msg{Kind: api.KWay, List: slices.Repeat([]int{10}, 11)}, api.ErrMany},
		{api.Msg{Kind: api.KWay, List: slices.Repeat([]int{10}, 10)}, api.ErrArg},
		{api.Msg{Kind: api.KHave, Err: 21, Data: long}, api.ErrArg},
		{api.Msg{Kind: api.KHave, Err: -1, Data: long}, api.ErrArg},
		{api.Msg{Kind: api.KHave, Err: 20, Data: long}, api.ErrLong},
		{api.Msg{Kind: api.KPut, Data: long, Node: 10, Lease: 0}, api.ErrLong},
		{api.Msg{Kind: api.KPut, Data: long, Node: 9, Lease: 1001}, api.ErrLong},
		{api.Msg{Kind: api.KPut, Node: -1, Lease: 1001}, api.ErrArg},
		{api.Msg{Kind: api.KSet, Data: long, Node: -1, Lease: 1}, api.ErrLong},
		{api.Msg{Kind: api.KSet, Data: long, Lease: -1}, api.ErrLong},
		{api.Msg{Kind: api.KSet, Node: 255, Lease: 0}, api.ErrArg},
		{api.Msg{Kind: api.KCache, Data: long, Node: 10}, api.ErrLong},
	} {
		tryEncode(t, c.m, "", c.want)
	}
}

// edges goes through messages of a kind whose fields, each, may be or may just not be.
func edges(kind int, yield func(m api.Msg)) {
	at := []int{-2, -1, 0, 9, 10, 255}
	for _, pred := range at {
		for _, node := range at {
			for _, err := range []api.Errno{-1, 0, 20, 21} {
				for _, list := range [][]int{nil, {0}, {-1}, {9, 10}, make([]int, 10), make([]int, 11), slices.Repeat([]int{-1}, 11)} {
					for _, data := range [][]byte{nil, {1}, make([]byte, 6000), make([]byte, 6001)} {
						for _, lease := range []int{0, 1, 1000, 1001, 1<<32 + 1} {
							yield(api.Msg{Kind: kind, Node: node, Pred: pred, List: list, Done: node%2 == 0, Key: api.Id{1, 31: 2}, Data: data, Lease: lease, Err: err})
						}
					}
				}
			}
		}
	}
}

// Fields that the row does not name are not asked, and those that it names are, one ahead of another.
func TestP401EncodeEdges(t *testing.T) {
	for kind := range rows {
		edges(kind, func(m api.Msg) {
			want, errno := wantEncode(m)
			tryEncode(t, m, want, errno)
		})
	}
}

func TestP401ParseKind(t *testing.T) {
	tryRefuse(t, "", api.ErrCut)
	if m, e := Parse(nil); e != api.ErrCut || !reflect.DeepEqual(plain(m), api.Msg{}) {
		t.Errorf("%+v, %v", m, e)
	}
	for kind := range 256 {
		b := []byte{byte(kind)}
		tryParse(t, b)
		want := api.ErrKind
		if kind == 1 {
			want = api.OK
		} else if kind >= 2 && kind <= 12 {
			want = api.ErrCut
		}
		if _, e := Parse(b); e != want {
			t.Errorf("%x: %v, want %v", b, e, want)
		}
		tryParse(t, append(b, make([]byte, 100)...))
	}
}

func TestP401ParseRefuses(t *testing.T) {
	key := string(make([]byte, 32))
	for b, want := range map[string]api.Errno{
		"\x01\x01":                    api.ErrMore,
		"\x02\x0a":                    api.ErrBad,
		"\x02\xfe":                    api.ErrBad,
		"\x02\xff":                    api.ErrCut,
		"\x02\x09":                    api.ErrCut,
		"\x02\x00\x0b":                api.ErrBad,
		"\x02\x00\xff":                api.ErrBad,
		"\x02\x0a\x0b":                api.ErrBad,
		"\x02\x00\x0a":                api.ErrCut,
		"\x02\x00\x03\x00\x0a":        api.ErrBad,
		"\x02\x00\x03\x00\xff":        api.ErrBad,
		"\x02\x00\x03\x00\x09":        api.ErrCut,
		"\x02\x00\x01\x00\x0a":        api.ErrMore,
		"\x02\x00\x01\x0a\x0a":        api.ErrBad,
		"\x03\xff":                    api.ErrBad,
		"\x03\x0a":                    api.ErrBad,
		"\x03\x09\x09":                api.ErrMore,
		"\x03\x0a\x09":                api.ErrBad,
		"\x04\x15":                    api.ErrBad,
		"\x04\xff":                    api.ErrBad,
		"\x04\x14\x00":                api.ErrMore,
		"\x06\x02":                    api.ErrBad,
		"\x06\x02\x00":                api.ErrBad,
		"\x06\xff\x00":                api.ErrBad,
		"\x06\x01":                    api.ErrCut,
		"\x06\x01\x0b":                api.ErrBad,
		"\x08\x00\x17":                api.ErrCut,
		"\x08\x00\xff":                api.ErrCut,
		"\x08\x00\x17\x71":            api.ErrBad,
		"\x08\x00\x17\x70":            api.ErrCut,
		"\x08\x15":                    api.ErrBad,
		"\x08\x15\x17\x71":            api.ErrBad,
		"\x08\x00\x00\x02\x00":        api.ErrCut,
		"\x05" + key + "\x00":         api.ErrMore,
		"\x05" + key[1:]:              api.ErrCut,
		"\x09" + key + "\x00\x00\x0a": api.ErrBad,
		"\x09" + key + "\x00\x00\xff\x00\x00\x00\x00":     api.ErrBad,
		"\x09" + key + "\x00\x00\x00\x00\x00\x00":         api.ErrCut,
		"\x09" + key + "\x00\x00\x00\xff\xff\xff":         api.ErrCut,
		"\x09" + key + "\x00\x00\x00\x00\x00\x00\x00":     api.ErrBad,
		"\x09" + key + "\x00\x00\x00\x00\x00\x03\xe9":     api.ErrBad,
		"\x09" + key + "\x00\x00\x00\x00\x00\x00\x00\x00": api.ErrBad,
		"\x0a" + key + "\x17\x71":                         api.ErrBad,
		"\x0c\x00\x00\x00\x01\x00\x00\x01":                api.ErrBad,
		"\x0c\x00\x00\x00\x00\x01\x00\x01":                api.ErrBad,
		"\x0c\x00\x00\x00\xff\xff\xff\xff":                api.ErrBad,
		"\x0c\x00\x00\x00\x80\x00\x00\x01":                api.ErrBad,
		"\x0c\x00\x00\x00\x00\x00\x03\xe8\x00":            api.ErrMore,
		"\x0d\x00":                                        api.ErrKind,
		"\x00":                                            api.ErrKind,
		"\xff":                                            api.ErrKind,
	} {
		tryRefuse(t, b, want)
	}
}

func TestP401ParseCutAndMore(t *testing.T) {
	for kind := range rows {
		m := full(kind)
		if kind == api.KHave || kind == api.KPut {
			m.Data = make([]byte, 6000)
		}
		b, e := Encode(m)
		if e != api.OK {
			t.Fatal(kind, e)
		}
		for k := range b {
			tryRefuse(t, string(b[:k]), api.ErrCut)
		}
		for _, x := range []string{"\x00", "\x01", "\xff", "\x00\x00"} {
			tryRefuse(t, string(b)+x, api.ErrMore)
		}
	}
}

func TestP401ParseEveryByte(t *testing.T) {
	for kind := range rows {
		for _, m := range []api.Msg{full(kind), {Kind: kind, Pred: -1, Lease: 1}} {
			b, _ := Encode(m)
			for at := range b {
				for x := range 256 {
					turned := bytes.Clone(b)
					turned[at] = byte(x)
					tryParse(t, turned)
					tryParse(t, turned[:at+1])
					tryParse(t, append(turned, 0))
				}
			}
		}
	}
}

// A few bytes, all of them such as may be or may just not be somewhere.
func TestP401ParseEdges(t *testing.T) {
	some := []byte{0, 1, 2, 3, 9, 10, 11, 20, 21, 255}
	var try func(b []byte, left int)
	try = func(b []byte, left int) {
		tryParse(t, b)
		if left == 0 {
			return
		}
		for _, x := range some {
			try(append(b[:len(b):len(b)], x), left-1)
		}
	}
	for kind := range 14 {
		try([]byte{byte(kind)}, 4)
	}
}

func TestP401ParseLengths(t *testing.T) {
	for _, n := range []int{0, 1, 255, 256, 5999, 6000, 6001, 6002, 6144, 32768, 65535} {
		for _, there := range []int{0, n - 1, n, n + 1} {
			b := append([]byte{8, 0, byte(n >> 8), byte(n)}, make([]byte, max(there, 0))...)
			tryParse(t, b)
			want := api.OK
			switch {
			case n > 6000:
				want = api.ErrBad
			case there < n && n > 0:
				want = api.ErrCut
			case there > n:
				want = api.ErrMore
			}
			if m, e := Parse(b); e != want || e == api.OK && len(m.Data) != n {
				t.Errorf("%d, %d there: %v, want %v", n, there, e, want)
			}
		}
	}
}

func TestP401ParseTimes(t *testing.T) {
	for _, head := range []string{"\x0c\x00\x00\x00", "\x09" + string(make([]byte, 32)) + "\x00\x00\x00"} {
		for high := range uint32(40) {
			for low := range uint32(1200) {
				n := low
				if high > 0 {
					n += 1 << (high - 1) // from here on the upper bytes, too
				}
				m, e := Parse(binary.BigEndian.AppendUint32([]byte(head), n))
				if is := n >= 1 && n <= 1000; is && (e != api.OK || m.Lease != int(n)) || !is && (e != api.ErrBad || m.Kind != 0) {
					t.Fatalf("time %d: %+v, %v", n, m, e)
				}
			}
		}
	}
}

// turns are other values of each field, named as rows names them.
var turns = map[rune][]func(m *api.Msg){
	'N': {func(m *api.Msg) { m.Node = 0 }, func(m *api.Msg) { m.Node = -1 }, func(m *api.Msg) { m.Node += 256 }, func(m *api.Msg) { m.Node += 1 << 32 }},
	'P': {func(m *api.Msg) { m.Pred = -1 }, func(m *api.Msg) { m.Pred = -2 }, func(m *api.Msg) { m.Pred = 255 }, func(m *api.Msg) { m.Pred += 256 }},
	'L': {func(m *api.Msg) { m.List = nil }, func(m *api.Msg) { m.List = m.List[:3] }, func(m *api.Msg) { m.List = []int{9, 0, 3, 3, 0} }, func(m *api.Msg) { m.List = []int{0, 9, 3, 3} }, func(m *api.Msg) { m.List = []int{9, 0, 3, 4} }, func(m *api.Msg) { m.List = []int{9, 0, 3, 259} }, func(m *api.Msg) { m.List = make([]int, 11) }},
	'D': {func(m *api.Msg) { m.Done = false }},
	'K': {func(m *api.Msg) { m.Key[0]++ }, func(m *api.Msg) { m.Key[31]-- }, func(m *api.Msg) { m.Key = api.Id{} }},
	'B': {func(m *api.Msg) { m.Data = nil }, func(m *api.Msg) { m.Data = m.Data[:4] }, func(m *api.Msg) { m.Data = []byte("some\x00\x00") }, func(m *api.Msg) { m.Data = []byte("same\x00") }, func(m *api.Msg) { m.Data = []byte("some\x01") }, func(m *api.Msg) { m.Data = make([]byte, 6001) }},
	'T': {func(m *api.Msg) { m.Lease++ }, func(m *api.Msg) { m.Lease = 0 }, func(m *api.Msg) { m.Lease += 1 << 32 }},
	'E': {func(m *api.Msg) { m.Err = api.OK }, func(m *api.Msg) { m.Err = 21 }, func(m *api.Msg) { m.Err += 256 }},
}

func trySame(t *testing.T, a, b api.Msg, want bool) {
	t.Helper()
	if Same(a, b) != want || Same(b, a) != want {
		t.Errorf("Same of %+v and %+v: not %v", a, b, want)
	}
}

func TestP401Same(t *testing.T) {
	for kind := -2; kind <= 20; kind++ {
		trySame(t, full(kind), full(kind), true)
		trySame(t, worst(kind), worst(kind), true)
		trySame(t, api.Msg{Kind: kind}, api.Msg{Kind: kind, List: []int{}, Data: []byte{}}, true)
		trySame(t, full(kind), named(full(kind)), true)
		for field, l := range turns {
			for _, turn := range l {
				m := full(kind)
				turn(&m)
				trySame(t, full(kind), m, !strings.ContainsRune(rows[kind], field))
			}
		}
	}
}

func TestP401SameKinds(t *testing.T) {
	kinds := slices.Clone(noKinds)
	for kind := range rows {
		kinds = append(kinds, kind)
	}
	for _, a := range kinds {
		for _, b := range kinds {
			trySame(t, full(a), full(b), a == b)
			trySame(t, api.Msg{Kind: a}, api.Msg{Kind: b}, a == b)
		}
	}
	for _, kind := range noKinds {
		trySame(t, full(kind), worst(kind), true)
	}
}

// What may not be is held against the other like what may.
func TestP401SameOfWhatMayNotBe(t *testing.T) {
	for kind, row := range rows {
		for _, field := range row {
			for _, turn := range turns[field] {
				a, b := full(kind), full(kind)
				turn(&a)
				turn(&b)
				trySame(t, a, b, true)
				trySame(t, a, full(kind), false)
			}
		}
	}
}

func TestP402WrittenIsReadAsTheSame(t *testing.T) {
	for kind := range rows {
		written := 0
		edges(kind, func(m api.Msg) {
			b, e := Encode(m)
			if e != api.OK {
				return
			}
			got, e := Parse(b)
			if e != api.OK || !Same(got, m) || !Same(m, got) {
				t.Fatalf("%+v: %+v, %v", m, got, e)
			}
			written++
		})
		if written == 0 {
			t.Error(kind)
		}
	}
}

func TestP402ReadIsWrittenAsTheSame(t *testing.T) {
	for kind := range rows {
		for _, n := range []int{0, 1, 2, 10} {
			m := full(kind)
			m.List, m.Data, m.Lease = slices.Repeat([]int{9}, n), bytes.Repeat([]byte{byte(kind)}, 600*n), max(100*n, 1)
			want, errno := wantEncode(m)
			if errno != api.OK {
				t.Fatal(kind, n, errno)
			}
			got, e := Parse([]byte(want))
			if e != api.OK {
				t.Fatal(kind, n, e)
			}
			tryEncode(t, got, want, api.OK)
		}
	}
}

func TestP2HandedInIsKept(t *testing.T) {
	for kind := range rows {
		m := full(kind)
		list, data := make([]int, 20), bytes.Repeat([]byte{0x77}, 200)
		m.List, m.Data = list[:4], data[:100]
		b, e := Encode(m)
		if e != api.OK || slices.ContainsFunc(list, func(n int) bool { return n != 0 }) || bytes.Count(data, []byte{0x77}) != 200 {
			t.Fatalf("%d: %x, %v, %v", kind, data, list, e)
		}
		want, room := bytes.Clone(b), append(bytes.Clone(b), "spare"...)
		for i := range data {
			data[i] = 0
		}
		if !bytes.Equal(b, want) {
			t.Errorf("%d: Encode's answer lies in the message", kind)
		}
		got, e := Parse(room[:len(b)])
		if e != api.OK || string(room) != string(want)+"spare" {
			t.Fatalf("%d: %x, %v", kind, room, e)
		}
		apart(t, got, room, want)
	}
}

// apart tells whether a message that was read from room shares its memory, ahead or behind.
func apart(t *testing.T, got api.Msg, room, want []byte) {
	t.Helper()
	for i := range room {
		room[i] = 0xee
	}
	tryEncode(t, got, string(want), api.OK)
	data := got.Data[:cap(got.Data)]
	for i := range data {
		data[i] = 0xdd
	}
	if bytes.Contains(room, []byte{0xdd}) {
		t.Errorf("%d: Parse's answer lies in the bytes", got.Kind)
	}
}

// No two answers share memory, so that what is done to one is not seen in the next.
func TestP2AnswersAreNew(t *testing.T) {
	for kind := range rows {
		one, _ := Encode(full(kind))
		want := bytes.Clone(one)
		one = one[:cap(one)]
		for i := range one {
			one[i] = 0xdd
		}
		tryEncode(t, full(kind), string(want), api.OK)
		a, _ := Parse(want)
		b, _ := Parse(want)
		for i := range a.List {
			a.List[i] = 8
		}
		for i := range a.Data {
			a.Data[i] = 8
		}
		if !Same(b, full(kind)) {
			t.Errorf("%d: %+v", kind, b)
		}
	}
}

func TestP4NotNamedIsZero(t *testing.T) {
	for kind := range rows {
		b, _ := Encode(full(kind))
		m, e := Parse(b)
		if e != api.OK || !reflect.DeepEqual(plain(m), named(full(kind))) {
			t.Errorf("%+v, %v", m, e)
		}
	}
	if m, e := Parse([]byte("\x02\xff\x00")); e != api.OK || m.Pred != -1 {
		t.Errorf("%+v, %v", m, e)
	}
	if m, e := Parse([]byte("\x03\x00")); e != api.OK || m.Pred != 0 {
		t.Errorf("%+v, %v", m, e)
	}
}

func TestP4NothingBesideErrors(t *testing.T) {
	for kind := range 14 {
		if b, e := Encode(worst(kind)); e != api.OK && len(b) != 0 {
			t.Errorf("%d: %x, %v", kind, b, e)
		}
		b, _ := Encode(full(kind))
		for k := range b {
			tryRefuse(t, string(b[:k]), api.ErrCut)
		}
	}
}

func FuzzP401Parse(f *testing.F) {
	for kind := range rows {
		b, _ := Encode(full(kind))
		f.Add(b)
	}
	f.Fuzz(func(t *testing.T, b []byte) {
		kept := bytes.Clone(b)
		tryParse(t, b)
		if !bytes.Equal(b, kept) {
			t.Errorf("%x became %x", kept, b)
		}
	})
}

func FuzzP402Encode(f *testing.F) {
	for kind := range rows {
		f.Add(kind, 3, -1, []byte{1, 2}, true, []byte("key"), []byte("data"), 7, 0)
	}
	f.Fuzz(func(t *testing.T, kind, node, pred int, l []byte, done bool, key, data []byte, lease, err int) {
		m := api.Msg{Kind: kind, Node: node, Pred: pred, Done: done, Data: data, Lease: lease, Err: api.Errno(err)}
		copy(m.Key[:], key)
		for _, n := range l {
			m.List = append(m.List, int(int8(n)))
		}
		want, errno := wantEncode(m)
		tryEncode(t, m, want, errno)
		if errno != api.OK {
			return
		}
		if got, e := Parse([]byte(want)); e != api.OK || !reflect.DeepEqual(plain(got), named(m)) || !Same(got, m) {
			t.Errorf("%+v: %+v, %v", m, got, e)
		}
	})
}
