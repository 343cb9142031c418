package pack_test

import (
	"encoding/binary"
	"fmt"
	"math"
	"math/rand/v2"
	"slices"
	"strings"
	"testing"
	"time"

	"palio/api"
	"palio/pack"
)

// modelPack goes by the document's words, entry by entry.
func modelPack(l []api.Entry) string {
	b := binary.BigEndian.AppendUint16(nil, uint16(len(l)))
	for _, e := range l {
		b = append(b, byte(len(e.Member)))
		b = append(b, e.Member...)
		b = binary.BigEndian.AppendUint64(b, uint64(e.Score))
		b = append(b, byte(1+len(e.Member)+8))
	}
	return string(b)
}

// modelEntries are those of a pack, and whether it is one.
func modelEntries(p string) ([]api.Entry, bool) {
	if len(p) < 2 {
		return nil, false
	}
	n := int(binary.BigEndian.Uint16([]byte(p)))
	if n > 200 {
		return nil, false
	}
	rest := p[2:]
	var l []api.Entry
	for range n {
		if rest == "" {
			return nil, false
		}
		size := int(rest[0])
		if size > 64 || len(rest) < size+10 || int(rest[size+9]) != size+9 {
			return nil, false
		}
		l = append(l, api.Entry{Member: rest[1 : 1+size], Score: int64(binary.BigEndian.Uint64([]byte(rest[1+size:])))})
		rest = rest[size+10:]
	}
	if rest != "" {
		return nil, false
	}
	return l, true
}

func reversed(l []api.Entry) []api.Entry {
	l = slices.Clone(l)
	slices.Reverse(l)
	return l
}

// brief is how something is told, cut off where it would be long.
func brief(v any) string {
	s := fmt.Sprintf("%q", v)
	return s[:min(len(s), 120)]
}

// check holds all that is told of a pack against its list.
func check(t *testing.T, p string, l []api.Entry) {
	t.Helper()
	if !pack.Right(p) {
		t.Errorf("%s of %d is no pack", brief(p), len(p))
	}
	if m, e := pack.Entries(p); !slices.Equal(m, l) || e != api.OK {
		t.Errorf("Entries(%s) is %s, %d, not %s", brief(p), brief(m), e, brief(l))
	}
	if m, e := pack.Back(p); !slices.Equal(m, reversed(l)) || e != api.OK {
		t.Errorf("Back(%s) is %s, %d, not %s, turned", brief(p), brief(m), e, brief(l))
	}
	for at, x := range l {
		checkGet(t, p, at, x, api.OK)
		first := slices.IndexFunc(l, func(y api.Entry) bool { return y.Member == x.Member })
		checkFind(t, p, x.Member, first)
	}
	for _, at := range []int{math.MinInt, -201, -1, len(l), len(l) + 1, 200, 1 << 32, math.MaxInt} {
		if at < 0 || at >= len(l) {
			checkGet(t, p, at, api.Entry{}, api.ErrArg)
		}
	}
}

func checkGet(t *testing.T, p string, at int, want api.Entry, wantErr api.Errno) {
	t.Helper()
	if x, e := pack.Get(p, at); x != want || e != wantErr {
		t.Errorf("Get(%s, %d) is %s, %d, not %s, %d", brief(p), at, brief(x), e, brief(want), wantErr)
	}
}

func checkFind(t *testing.T, p string, member string, want int) {
	t.Helper()
	if at := pack.Find(p, member); at != want {
		t.Errorf("Find(%s, %q) is %d, not %d", brief(p), member, at, want)
	}
}

func checkPack(t *testing.T, l []api.Entry) string {
	t.Helper()
	p, e := pack.Pack(l)
	if p != modelPack(l) || e != api.OK {
		t.Errorf("Pack(%s of %d) is %s, %d, not %s", brief(l), len(l), brief(p), e, brief(modelPack(l)))
	}
	check(t, p, l)
	return p
}

func checkPackFault(t *testing.T, l []api.Entry, want api.Errno) {
	t.Helper()
	if p, e := pack.Pack(l); p != "" || e != want {
		t.Errorf("Pack(%s of %d) is %s, %d, not %d", brief(l), len(l), brief(p), e, want)
	}
}

func checkInsert(t *testing.T, p string, at int, x api.Entry, want string, wantErr api.Errno) {
	t.Helper()
	if q, e := pack.Insert(p, at, x); q != want || e != wantErr {
		t.Errorf("Insert(%s, %d, %s) is %s, %d, not %s, %d", brief(p), at, brief(x), brief(q), e, brief(want), wantErr)
	}
}

func checkDelete(t *testing.T, p string, at int, want string, wantErr api.Errno) {
	t.Helper()
	if q, e := pack.Delete(p, at); q != want || e != wantErr {
		t.Errorf("Delete(%s, %d) is %s, %d, not %s, %d", brief(p), at, brief(q), e, brief(want), wantErr)
	}
}

// checkWrong holds that everything tells what is no pack, whatever else is wrong.
func checkWrong(t *testing.T, p string) {
	t.Helper()
	if pack.Right(p) {
		t.Errorf("%s of %d is a pack", brief(p), len(p))
	}
	if l, e := pack.Entries(p); len(l) != 0 || e != api.ErrPack {
		t.Errorf("Entries(%s) is %s, %d", brief(p), brief(l), e)
	}
	if l, e := pack.Back(p); len(l) != 0 || e != api.ErrPack {
		t.Errorf("Back(%s) is %s, %d", brief(p), brief(l), e)
	}
	for _, at := range []int{math.MinInt, -1, 0, 1, 2, 199, 200, 201, math.MaxInt} {
		checkGet(t, p, at, api.Entry{}, api.ErrPack)
		checkDelete(t, p, at, "", api.ErrPack)
		for _, member := range []string{"", "a", long(64), long(65)} {
			checkInsert(t, p, at, api.Entry{Member: member}, "", api.ErrPack)
		}
	}
	for _, member := range []string{"", "a", "b", "\x00", long(64), long(65)} {
		checkFind(t, p, member, -1)
	}
}

// checkModel holds a text, pack or not, against the document's words.
func checkModel(t *testing.T, p string) {
	t.Helper()
	l, ok := modelEntries(p)
	m, e := pack.Entries(p)
	b, f := pack.Back(p)
	want := api.ErrPack
	if ok {
		want = api.OK
	}
	if pack.Right(p) != ok || !slices.Equal(m, l) || e != want || !slices.Equal(b, reversed(l)) || f != want {
		t.Errorf("%s of %d: %t, %s, %d, %s, %d, not %t, %s", brief(p), len(p), pack.Right(p), brief(m), e, brief(b), f, ok, brief(l))
	}
}

func long(n int) string { return strings.Repeat("x", n) }

// many are so many entries; every third one has the member of another one.
func many(n int) []api.Entry {
	var l []api.Entry
	for at := range n {
		member := fmt.Sprintf("m%d%s", at, long(at%60))
		if at%3 == 2 {
			member = l[at/2].Member
		}
		l = append(l, api.Entry{Member: member, Score: int64(at*at) - 1000})
	}
	return l
}

// lists are right ones: ordinary ones and those at the edges.
func lists() [][]api.Entry {
	full := make([]api.Entry, 200)
	widest := slices.Repeat([]api.Entry{{Member: long(64), Score: math.MinInt64}}, 200)
	return [][]api.Entry{
		nil,
		{},
		{{}},
		{{Member: "a", Score: 258}},
		{{Member: "b", Score: 1}, {Member: "a", Score: 2}},
		{{Member: "a", Score: 5}, {Member: "a", Score: 5}, {Member: "a", Score: -5}},
		{{}, {}, {}},
		{{Member: long(64), Score: -1}},
		{{Member: long(63)}, {Member: long(64)}, {}, {Member: long(1)}},
		{{Member: "z", Score: math.MaxInt64}, {Member: "y", Score: math.MinInt64}, {Member: "x"}, {Member: "w", Score: -1}},
		{{Member: "\x00"}, {Member: "\x00\x01\x01a"}, {Member: "\xff\xfe", Score: 9}, {Member: "\r\n", Score: 10}, {Member: "é世", Score: 11}},
		{{Member: "\x09", Score: 9}, {Score: 9 << 56}, {Member: "\x00\x01", Score: 0x0a0909090909090a}},
		many(5),
		many(199),
		many(200),
		full,
		widest,
	}
}

// P5.1: a pack of none.
func TestNew(t *testing.T) {
	if p := pack.New(); p != "\x00\x00" {
		t.Errorf("it is %q", p)
	}
	check(t, pack.New(), nil)
	checkFind(t, pack.New(), "", -1)
	if p, e := pack.Pack(nil); p != pack.New() || e != api.OK {
		t.Errorf("of nil: %q, %d", p, e)
	}
	if p, e := pack.Pack([]api.Entry{}); p != pack.New() || e != api.OK {
		t.Errorf("of none: %q, %d", p, e)
	}
}

// P5.1: the bytes of packs, written out.
func TestPackBytes(t *testing.T) {
	x64 := long(64)
	for _, c := range []struct {
		l []api.Entry
		p string
	}{
		{[]api.Entry{{Member: "a", Score: 258}}, "\x00\x01\x01a\x00\x00\x00\x00\x00\x00\x01\x02\x0a"},
		{[]api.Entry{{}}, "\x00\x01\x00\x00\x00\x00\x00\x00\x00\x00\x00\x09"},
		{[]api.Entry{{Member: "ab", Score: -1}, {Member: "c", Score: -2}}, "\x00\x02\x02ab\xff\xff\xff\xff\xff\xff\xff\xff\x0b\x01c\xff\xff\xff\xff\xff\xff\xff\xfe\x0a"},
		{[]api.Entry{{Score: math.MinInt64}, {Score: math.MaxInt64}}, "\x00\x02\x00\x80\x00\x00\x00\x00\x00\x00\x00\x09\x00\x7f\xff\xff\xff\xff\xff\xff\xff\x09"},
		{[]api.Entry{{Member: x64, Score: 0x0102030405060708}}, "\x00\x01\x40" + x64 + "\x01\x02\x03\x04\x05\x06\x07\x08\x49"},
		{make([]api.Entry, 200), "\x00\xc8" + strings.Repeat("\x00\x00\x00\x00\x00\x00\x00\x00\x00\x09", 200)},
	} {
		if p := checkPack(t, c.l); p != c.p {
			t.Errorf("Pack(%s) is %s, not %s", brief(c.l), brief(p), brief(c.p))
		}
	}
}

// P5.1: packs of lists at the edges, and their entries there and back.
func TestPack(t *testing.T) {
	for _, l := range lists() {
		checkPack(t, l)
	}
	for n := range 65 {
		checkPack(t, []api.Entry{{Member: long(n), Score: int64(n)}, {Member: "a", Score: 1}, {Member: long(64 - n)}})
	}
}

// P5.1: each bit of a score is where it belongs.
func TestScores(t *testing.T) {
	for bit := range 64 {
		n := int64(1) << bit
		checkPack(t, []api.Entry{{Member: "a", Score: n}, {Member: "b", Score: -n}, {Member: "c", Score: n - 1}, {Member: "d", Score: ^n}})
	}
}

// P5.1: too many entries, too long members, and that the number is told first.
func TestPackFaults(t *testing.T) {
	for _, n := range []int{201, 202, 256, 400, 65536, 65537} {
		checkPackFault(t, make([]api.Entry, n), api.ErrFull)
		for _, at := range []int{0, 100, 200, n - 1} {
			l := make([]api.Entry, n)
			l[at].Member = long(65)
			checkPackFault(t, l, api.ErrFull)
		}
	}
	for _, n := range []int{1, 2, 199, 200} {
		for _, size := range []int{65, 66, 128, 256, 257, 300, 70000} {
			for _, at := range []int{0, n / 2, n - 1} {
				l := make([]api.Entry, n)
				l[at].Member = long(size)
				checkPackFault(t, l, api.ErrArg)
			}
		}
	}
}

// P5.1: what is handed in is left as it is, its spare room too.
func TestPackLeavesAlone(t *testing.T) {
	room := many(20)
	for _, n := range []int{0, 1, 7, 20} {
		pack.Pack(room[:n])
	}
	long65 := append(many(20), api.Entry{Member: long(65)})
	pack.Pack(long65)
	if !slices.Equal(room, many(20)) || !slices.Equal(long65[:20], many(20)) {
		t.Errorf("it is %s", brief(room))
	}
}

// P5.1: what is answered is new memory, spare room too.
func TestEntriesAreNew(t *testing.T) {
	p := modelPack(many(20))
	lists := make([][]api.Entry, 4)
	lists[0], _ = pack.Entries(p)
	lists[1], _ = pack.Back(p)
	lists[2], _ = pack.Entries(p)
	lists[3], _ = pack.Back(p)
	for _, l := range lists[:2] {
		clear(l[:cap(l)])
	}
	if !slices.Equal(lists[2], many(20)) || !slices.Equal(lists[3], reversed(many(20))) {
		t.Errorf("stained: %s, %s", brief(lists[2]), brief(lists[3]))
	}
	check(t, p, many(20))
}

// P5.1, P5.2: texts that are no packs, each for its own reason.
func TestWrong(t *testing.T) {
	entry := modelPack([]api.Entry{{Member: "a", Score: 258}})[2:]
	for _, p := range []string{
		"", "\x00", "\x01", "a",
		"\x00\x00\x00", "\x00\x00" + entry, "\x01\x00", "\x01\x00" + entry, "\x01\x01" + entry,
		"\x00\x01", "\x00\x02" + entry, "\x00\x01" + entry + entry, "\x00\x03" + entry + entry, "\xff\xff" + entry,
		"\x00\xc9", "\xff\xff", "\x80\x00",
		"\x00\xc8" + strings.Repeat(entry, 199), "\x00\xc8" + strings.Repeat(entry, 201), "\x00\xc7" + strings.Repeat(entry, 200),
		"\x00\xc9" + strings.Repeat(entry, 201), "\x00\xca" + strings.Repeat(entry, 202), "\x01\x00" + strings.Repeat(entry, 256), "\x01\x01" + strings.Repeat(entry, 257), "\xff\xff" + strings.Repeat(entry, 65535),
		"\x00\x00" + strings.Repeat(entry, 65536), "\x00\x01" + strings.Repeat(entry, 65537),
		"\x00\x01\x41" + long(65) + "\x00\x00\x00\x00\x00\x00\x00\x07\x4a",
		"\x00\x01\xff" + long(255) + "\x00\x00\x00\x00\x00\x00\x00\x07\x08",
		"\x00\x02" + entry + "\x41" + long(65) + "\x00\x00\x00\x00\x00\x00\x00\x07\x4a",
		"\x00\x01" + entry[:10] + "\x0b", "\x00\x01" + entry[:10] + "\x09", "\x00\x01" + entry[:10] + "\x00", "\x00\x01" + entry[:10] + "\xff", "\x00\x01" + entry[:10] + "\x8a",
		"\x00\x02" + entry[:10] + "\x0b" + entry, "\x00\x02" + entry + entry[:10] + "\x15", "\x00\x02" + entry[:10] + "\x00" + entry,
		"\x00\x01\x00\x00\x00\x00\x00\x00\x00\x00\x00\x0a", "\x00\x01\x01\x00\x00\x00\x00\x00\x00\x00\x00\x09",
		"\x01\x00\x01a\x00\x00\x00\x00\x00\x00\x01\x02\x0a",
		"\x00\x01\x01a\x00\x00\x00\x00\x00\x00\x01\x02\x0b", "\x00\x01\x01a\x00\x00\x00\x00\x00\x00\x01\x02\x0a\x0a",
		strings.Repeat("\x00", 3), strings.Repeat("\x00", 12), long(1000),
	} {
		checkWrong(t, p)
		checkModel(t, p)
	}
}

// P5.1: packs cut off at each place, and with bytes left over at both ends.
func TestCutOff(t *testing.T) {
	for _, l := range lists() {
		p := modelPack(l)
		for at := range p {
			checkModel(t, p[:at])
			if pack.Right(p[:at]) {
				t.Errorf("%s, cut off at %d, is a pack", brief(p), at)
			}
		}
		for _, more := range []string{"\x00", "\x09", "x", "\x00\x00", modelPack([]api.Entry{{}})[2:]} {
			checkWrong(t, p+more)
			checkModel(t, more+p)
		}
	}
}

// P5.1, P5.3: packs of which one byte is changed, put in or left out are another list's, or no pack.
func TestChanged(t *testing.T) {
	for _, l := range lists()[2:12] {
		p := modelPack(l)
		for at := range len(p) + 1 {
			for b := range 256 {
				one := string([]byte{byte(b)})
				others := []string{p[:at] + one + p[at:]}
				if at < len(p) {
					others = append(others, p[:at]+one+p[at+1:], p[:at]+p[at+1:])
				}
				for _, other := range others {
					checkModel(t, other)
					if m, e := pack.Entries(other); other != p && e == api.OK && slices.Equal(m, l) {
						t.Errorf("%s and %s are one", brief(p), brief(other))
					}
				}
			}
		}
	}
}

// P5.1: texts put together of pieces of packs, held against the document's words.
func TestPieces(t *testing.T) {
	pieces := []string{"\x00", "\x01", "\x02", "\x09", "\x0a", "a", "\x00\x00", "\x00\x01", "\x00\x02", "\x00\x03", "\x00\x00\x00\x00\x00\x00\x00\x00", "\xff\xff\xff\xff\xff\xff\xff\xff", "\x00\x00\x00\x00\x00\x00\x00\x00\x00\x09", "\x01a\x00\x00\x00\x00\x00\x00\x00\x00\x0a"}
	r := rand.New(rand.NewPCG(1, 2))
	right := 0
	for range 200000 {
		b := "\x00" + string([]byte{byte(r.IntN(5))})
		if r.IntN(10) == 0 {
			b = ""
		}
		for range r.IntN(6) {
			b += pieces[r.IntN(len(pieces))]
		}
		checkModel(t, b)
		if pack.Right(b) {
			right++
		}
	}
	if right < 1000 {
		t.Errorf("%d were packs", right)
	}
}

// places are those that are asked for in a pack of so many.
func places(n int) []int {
	return []int{math.MinInt, -n - 1, -n, -2, -1, 0, 1, n / 2, n - 2, n - 1, n, n + 1, n + 2, 199, 200, 201, 256, 1 << 16, 1 << 32, math.MaxInt}
}

// P5.2: an entry at a place.
func TestGet(t *testing.T) {
	for _, l := range lists() {
		p := modelPack(l)
		for _, at := range places(len(l)) {
			if at >= 0 && at < len(l) {
				checkGet(t, p, at, l[at], api.OK)
			} else {
				checkGet(t, p, at, api.Entry{}, api.ErrArg)
			}
		}
	}
}

// P5.2: an entry put in at a place, and which error is told first.
func TestInsert(t *testing.T) {
	for _, l := range lists() {
		p := modelPack(l)
		for _, x := range []api.Entry{{}, {Member: "new", Score: -7}, {Member: long(64), Score: math.MinInt64}, {Member: long(65), Score: 1}, {Member: long(256)}, {Member: long(70000)}} {
			for _, at := range places(len(l)) {
				switch {
				case len(l) == 200:
					checkInsert(t, p, at, x, "", api.ErrFull)
				case at < 0 || at > len(l) || len(x.Member) > 64:
					checkInsert(t, p, at, x, "", api.ErrArg)
				default:
					checkInsert(t, p, at, x, modelPack(slices.Insert(slices.Clone(l), at, x)), api.OK)
				}
			}
		}
	}
}

// P5.2: the same, with the bytes written out.
func TestInsertBytes(t *testing.T) {
	a, b := "\x01a\x00\x00\x00\x00\x00\x00\x01\x02\x0a", "\x02bc\xff\xff\xff\xff\xff\xff\xff\xff\x0b"
	x := api.Entry{Member: "a", Score: 258}
	checkInsert(t, "\x00\x00", 0, x, "\x00\x01"+a, api.OK)
	checkInsert(t, "\x00\x01"+b, 0, x, "\x00\x02"+a+b, api.OK)
	checkInsert(t, "\x00\x01"+b, 1, x, "\x00\x02"+b+a, api.OK)
	checkInsert(t, "\x00\x02"+b+b, 1, x, "\x00\x03"+b+a+b, api.OK)
	checkInsert(t, "\x00\x02"+b+b, 2, x, "\x00\x03"+b+b+a, api.OK)
	checkInsert(t, "\x00\x02"+b+b, 3, x, "", api.ErrArg)
	checkDelete(t, "\x00\x03"+b+a+b, 1, "\x00\x02"+b+b, api.OK)
	checkDelete(t, "\x00\x03"+b+a+b, 0, "\x00\x02"+a+b, api.OK)
	checkDelete(t, "\x00\x03"+b+a+b, 2, "\x00\x02"+b+a, api.OK)
	checkDelete(t, "\x00\x01"+a, 0, "\x00\x00", api.OK)
	checkDelete(t, "\x00\x00", 0, "", api.ErrArg)
}

// P5.2: an entry left out.
func TestDelete(t *testing.T) {
	for _, l := range lists() {
		p := modelPack(l)
		for _, at := range places(len(l)) {
			if at >= 0 && at < len(l) {
				checkDelete(t, p, at, modelPack(slices.Delete(slices.Clone(l), at, at+1)), api.OK)
			} else {
				checkDelete(t, p, at, "", api.ErrArg)
			}
		}
	}
}

// P5.2: the first place of a member.
func TestFind(t *testing.T) {
	p := modelPack([]api.Entry{{Member: "ab", Score: 1}, {Member: "abc", Score: 2}, {Member: "a", Score: 3}, {Member: "ab", Score: 0}, {Member: "", Score: 4}, {Member: "a", Score: 3}, {Member: "\x00", Score: 5}, {Member: long(64)}})
	for member, want := range map[string]int{"ab": 0, "abc": 1, "a": 2, "": 4, "\x00": 6, long(64): 7} {
		checkFind(t, p, member, want)
	}
	for _, member := range []string{"b", "bc", "abcd", "A", "aa", "a\x00", "\x00\x00", "\x01a", "x", long(63), long(65), long(1000), "\x02ab"} {
		checkFind(t, p, member, -1)
	}
	for _, l := range lists() {
		p := modelPack(l)
		for _, member := range []string{"", "a", "m1", "m1x", "m19", "x", long(64), long(65)} {
			checkFind(t, p, member, slices.IndexFunc(l, func(e api.Entry) bool { return e.Member == member }))
		}
	}
}

// P5.2: where a text is no pack, that is told of each place and member; TestWrong asks for one text after the other.
func TestWrongFirst(t *testing.T) {
	full := modelPack(make([]api.Entry, 200))
	for _, p := range []string{full + "\x00", full[:len(full)-1], full[:len(full)-1] + "\x0a", "\x00\xc9" + full[2:], ""} {
		checkInsert(t, p, 0, api.Entry{}, "", api.ErrPack)
		checkInsert(t, p, -1, api.Entry{Member: long(65)}, "", api.ErrPack)
		checkGet(t, p, -1, api.Entry{}, api.ErrPack)
		checkDelete(t, p, 200, "", api.ErrPack)
		checkFind(t, p, "", -1)
	}
	checkInsert(t, full, -1, api.Entry{Member: long(65)}, "", api.ErrFull)
	checkInsert(t, full, 201, api.Entry{}, "", api.ErrFull)
	checkInsert(t, full, 200, api.Entry{}, "", api.ErrFull)
}

// P5.3: what is put in and left out at one place gives the same bytes back, and the other way round.
func TestThereAndBack(t *testing.T) {
	for _, l := range lists() {
		p := modelPack(l)
		for at := 0; at <= len(l) && len(l) < 200; at++ {
			for _, x := range []api.Entry{{}, {Member: "a", Score: -1}, {Member: long(64), Score: math.MaxInt64}} {
				q, _ := pack.Insert(p, at, x)
				checkGet(t, q, at, x, api.OK)
				checkDelete(t, q, at, p, api.OK)
			}
		}
		for at, x := range l {
			q, _ := pack.Delete(p, at)
			checkInsert(t, q, at, x, p, api.OK)
		}
	}
}

// some is an entry, right or, now and then, not.
func some(r *rand.Rand) api.Entry {
	size := r.IntN(8)
	switch r.IntN(20) {
	case 0:
		size = r.IntN(65)
	case 1:
		size = 64 + r.IntN(2)
	}
	b := make([]byte, size)
	for at := range b {
		b[at] = []byte{0, 1, 9, 10, 'a', 'b', 255}[r.IntN(7)]
	}
	return api.Entry{Member: string(b), Score: int64(r.Uint64()) >> r.IntN(64)}
}

// P5.3: changes one after the other, of a pack and of a list, up to a full one and down again.
func TestChanges(t *testing.T) {
	r := rand.New(rand.NewPCG(3, 4))
	told := map[api.Errno]int{}
	for range 20 {
		p, l := pack.New(), []api.Entry(nil)
		for step := range 1200 {
			at := r.IntN(len(l)+4) - 2
			var q string
			var e, want api.Errno
			m := slices.Clone(l)
			if grows := step < 600; r.IntN(3) > 0 == grows {
				x := some(r)
				q, e = pack.Insert(p, at, x)
				switch {
				case len(l) == 200:
					want = api.ErrFull
				case at < 0 || at > len(l) || len(x.Member) > 64:
					want = api.ErrArg
				default:
					m = slices.Insert(m, at, x)
				}
			} else {
				q, e = pack.Delete(p, at)
				if at < 0 || at >= len(l) {
					want = api.ErrArg
				} else {
					m = slices.Delete(m, at, at+1)
				}
			}
			if want == api.OK {
				p, l = q, m
			}
			if e != want || want != api.OK && q != "" || p != modelPack(l) {
				t.Fatalf("at %d of %d: %s, %d, not %s, %d", at, len(l), brief(q), e, brief(modelPack(l)), want)
			}
			told[e]++
		}
		check(t, p, l)
	}
	if told[api.OK] < 1000 || told[api.ErrArg] < 1000 {
		t.Errorf("told was %v", told)
	}
}

// P5.3: packs and lists are one to one.
func TestOneToOne(t *testing.T) {
	r := rand.New(rand.NewPCG(5, 6))
	whose := map[string][]api.Entry{}
	for range 20000 {
		var l []api.Entry
		for range r.IntN(4) {
			x := some(r)
			x.Member = x.Member[:min(len(x.Member), 2)]
			l = append(l, x)
		}
		p, e := pack.Pack(l)
		if other, is := whose[p]; e != api.OK || is && !slices.Equal(other, l) {
			t.Errorf("%s and %s are both %s, %d", brief(other), brief(l), brief(p), e)
		}
		whose[p] = l
		if m, e := pack.Entries(p); !slices.Equal(m, l) || e != api.OK {
			t.Errorf("Entries(%s) is %s, %d, not %s", brief(p), brief(m), e, brief(l))
		}
	}
	if len(whose) < 10000 {
		t.Errorf("%d lists", len(whose))
	}
}

// P5.2: a text that goes on and on is told to be no pack without going through it.
func TestSoon(t *testing.T) {
	begin := time.Now()
	entries := strings.Repeat(modelPack([]api.Entry{{Member: "a"}})[2:], 1<<22)
	for _, head := range []string{"\x00\x00", "\x00\x01", "\x00\xc8", "\x00\xc9", "\xff\xff"} {
		p := head + entries
		for range 1000 {
			if pack.Right(p) || pack.Find(p, "a") != -1 {
				t.Fatalf("%q and so many entries are a pack", head)
			}
			checkGet(t, p, 0, api.Entry{}, api.ErrPack)
		}
	}
	if d := time.Since(begin); d > 10*time.Second {
		t.Errorf("it took %v", d)
	}
}
