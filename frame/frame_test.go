package frame_test

import (
	"fmt"
	"math"
	"math/rand/v2"
	"reflect"
	"regexp"
	"slices"
	"strconv"
	"strings"
	"testing"
	"time"

	"palio/api"
	"palio/frame"
)

const end = "\r\n"

// modelRight and modelBytes go by the document's words, reply by reply.
func modelRight(r api.Reply, around int) bool {
	switch r.Kind {
	case api.ReplySimple, api.ReplyError:
		return r.N == 0 && len(r.L) == 0 && len(r.S) <= 600 && !strings.Contains(r.S, "\r") && !strings.Contains(r.S, "\n")
	case api.ReplyInt:
		return r.S == "" && len(r.L) == 0
	case api.ReplyBulk:
		return r.N == 0 && len(r.L) == 0 && len(r.S) <= 600
	case api.ReplyNil:
		return r.N == 0 && r.S == "" && len(r.L) == 0
	case api.ReplyArray:
		ok := r.N == 0 && r.S == "" && len(r.L) <= 1000 && around < 4
		for i := 0; ok && i < len(r.L); i++ {
			ok = modelRight(r.L[i], around+1)
		}
		return ok
	}
	return false
}

func modelBytes(r api.Reply) string {
	switch r.Kind {
	case api.ReplySimple:
		return "+" + r.S + end
	case api.ReplyError:
		return "-" + r.S + end
	case api.ReplyInt:
		return fmt.Sprintf(":%d\r\n", r.N)
	case api.ReplyBulk:
		return fmt.Sprintf("$%d\r\n%s\r\n", len(r.S), r.S)
	case api.ReplyNil:
		return "$-1\r\n"
	}
	s := fmt.Sprintf("*%d\r\n", len(r.L))
	for _, in := range r.L {
		s += modelBytes(in)
	}
	return s
}

var digits = regexp.MustCompile(`^(0|-?[1-9][0-9]*)$`)

func modelNumber(s string, least, most int64) (int64, bool) {
	n, err := strconv.ParseInt(s, 10, 64)
	return n, err == nil && digits.MatchString(s) && n >= least && n <= most
}

// modelDecode goes by the document's words, one after the other.
func modelDecode(s string, around int) (api.Reply, string, api.Errno) {
	none := api.Reply{}
	if s == "" {
		return none, s, api.ErrMore
	}
	if !strings.Contains("+-:$*", s[:1]) {
		return none, s, api.ErrFrame
	}
	at := strings.Index(s, end)
	if at < 0 && len(s) > 602 {
		return none, s, api.ErrFrame
	}
	if at < 0 {
		return none, s, api.ErrMore
	}
	said, rest := s[1:at], s[at+2:]
	switch s[0] {
	case '+', '-':
		if len(said) > 600 || strings.ContainsAny(said, end) {
			return none, s, api.ErrFrame
		}
		return api.Reply{Kind: map[byte]int{'+': api.ReplySimple, '-': api.ReplyError}[s[0]], S: said}, rest, api.OK
	case ':':
		n, ok := modelNumber(said, math.MinInt64, math.MaxInt64)
		if !ok {
			return none, s, api.ErrFrame
		}
		return api.Reply{Kind: api.ReplyInt, N: n}, rest, api.OK
	case '$':
		n, ok := modelNumber(said, -1, 600)
		switch {
		case !ok:
			return none, s, api.ErrFrame
		case n < 0:
			return api.Reply{Kind: api.ReplyNil}, rest, api.OK
		case int64(len(rest)) < n+2:
			return none, s, api.ErrMore
		case rest[n:n+2] != end:
			return none, s, api.ErrFrame
		}
		return api.Reply{Kind: api.ReplyBulk, S: rest[:n]}, rest[n+2:], api.OK
	}
	n, ok := modelNumber(said, 0, 1000)
	if !ok || around == 4 {
		return none, s, api.ErrFrame
	}
	r := api.Reply{Kind: api.ReplyArray}
	for range n {
		in, behind, e := modelDecode(rest, around+1)
		if e != api.OK {
			return none, s, e
		}
		r.L, rest = append(r.L, in), behind
	}
	return r, rest, api.OK
}

func same(a, b api.Reply) bool {
	return a.Kind == b.Kind && a.N == b.N && a.S == b.S && slices.EqualFunc(a.L, b.L, same)
}

// brief is how something is told, cut off where it would be long.
func brief(v any) string {
	s := fmt.Sprint(v)
	return s[:min(len(s), 80)]
}

func check(t *testing.T, s string, want api.Reply, wantRest string, wantErr api.Errno) {
	t.Helper()
	r, rest, e := frame.Decode(s)
	if !same(r, want) || rest != wantRest || e != wantErr {
		t.Errorf("Decode(%.60q of %d) is %s, %.20q of %d, %d, not %s, %.20q of %d, %d", s, len(s), brief(r), rest, len(rest), e, brief(want), wantRest, len(wantRest), wantErr)
	}
}

func checkModel(t *testing.T, s string) {
	t.Helper()
	r, rest, e := modelDecode(s, 0)
	check(t, s, r, rest, e)
}

// checkFault holds that all bytes are left, beside an empty reply.
func checkFault(t *testing.T, s string, want api.Errno) {
	t.Helper()
	check(t, s, api.Reply{}, s, want)
}

func checkRight(t *testing.T, r api.Reply, want string) {
	t.Helper()
	if !frame.Right(r) {
		t.Errorf("%s is not right", brief(r))
	}
	if s, e := frame.Encode(r); s != want || e != api.OK {
		t.Errorf("Encode(%s) is %.60q, %d, not %.60q", brief(r), s, e, want)
	}
}

func checkWrong(t *testing.T, r api.Reply) {
	t.Helper()
	if frame.Right(r) {
		t.Errorf("%s is right", brief(r))
	}
	if s, e := frame.Encode(r); s != "" || e != api.ErrFrame {
		t.Errorf("Encode(%s) is %.60q, %d", brief(r), s, e)
	}
}

func long(n int) string { return strings.Repeat("a", n) }

// many is an array of so many replies.
func many(n int, r api.Reply) api.Reply {
	return api.Reply{Kind: api.ReplyArray, L: slices.Repeat([]api.Reply{r}, n)}
}

// tower is so many arrays within each other, and a reply within all of them.
func tower(high int, in api.Reply) api.Reply {
	for range high {
		in = api.Reply{Kind: api.ReplyArray, L: []api.Reply{in}}
	}
	return in
}

// sample is a right reply and its bytes.
type sample struct {
	r api.Reply
	s string
}

// samples are replies of all kinds, and those at the edges.
func samples() []sample {
	seven, none := api.Reply{Kind: api.ReplyInt, N: 7}, api.Reply{Kind: api.ReplyNil}
	list := []sample{
		{api.Reply{Kind: api.ReplySimple, S: "OK"}, "+OK\r\n"},
		{api.Reply{Kind: api.ReplySimple}, "+\r\n"},
		{api.Reply{Kind: api.ReplySimple, S: "+-:$* \x00\xff\t\xc3\xa9"}, "++-:$* \x00\xff\t\xc3\xa9\r\n"},
		{api.Reply{Kind: api.ReplySimple, S: long(600)}, "+" + long(600) + end},
		{api.Reply{Kind: api.ReplyError, S: "ERR no such key"}, "-ERR no such key\r\n"},
		{api.Reply{Kind: api.ReplyError}, "-\r\n"},
		{api.Reply{Kind: api.ReplyError, S: "1"}, "-1\r\n"},
		{api.Reply{Kind: api.ReplyError, S: long(600)}, "-" + long(600) + end},
		{seven, ":7\r\n"},
		{api.Reply{Kind: api.ReplyInt}, ":0\r\n"},
		{api.Reply{Kind: api.ReplyInt, N: -1}, ":-1\r\n"},
		{api.Reply{Kind: api.ReplyInt, N: math.MaxInt64}, ":9223372036854775807\r\n"},
		{api.Reply{Kind: api.ReplyInt, N: math.MinInt64}, ":-9223372036854775808\r\n"},
		{api.Reply{Kind: api.ReplyBulk}, "$0\r\n\r\n"},
		{api.Reply{Kind: api.ReplyBulk, S: "x"}, "$1\r\nx\r\n"},
		{api.Reply{Kind: api.ReplyBulk, S: "a\r\nb\n\r"}, "$6\r\na\r\nb\n\r\r\n"},
		{api.Reply{Kind: api.ReplyBulk, S: end}, "$2\r\n\r\n\r\n"},
		{api.Reply{Kind: api.ReplyBulk, S: "$-1\r\n"}, "$5\r\n$-1\r\n\r\n"},
		{api.Reply{Kind: api.ReplyBulk, S: "é\xff\x00"}, "$4\r\né\xff\x00\r\n"},
		{api.Reply{Kind: api.ReplyBulk, S: long(600)}, "$600\r\n" + long(600) + end},
		{api.Reply{Kind: api.ReplyBulk, S: strings.Repeat(end, 300)}, "$600\r\n" + strings.Repeat(end, 301)},
		{none, "$-1\r\n"},
		{api.Reply{Kind: api.ReplyArray}, "*0\r\n"},
		{api.Reply{Kind: api.ReplyArray, L: []api.Reply{seven, none}}, "*2\r\n:7\r\n$-1\r\n"},
		{many(999, none), "*999\r\n" + strings.Repeat("$-1\r\n", 999)},
		{many(1000, seven), "*1000\r\n" + strings.Repeat(":7\r\n", 1000)},
		{many(1000, many(3, seven)), "*1000\r\n" + strings.Repeat("*3\r\n:7\r\n:7\r\n:7\r\n", 1000)},
		{tower(3, seven), "*1\r\n*1\r\n*1\r\n:7\r\n"},
		{tower(4, seven), "*1\r\n*1\r\n*1\r\n*1\r\n:7\r\n"},
		{tower(3, api.Reply{Kind: api.ReplyArray}), "*1\r\n*1\r\n*1\r\n*0\r\n"},
		{tower(3, many(1000, api.Reply{Kind: api.ReplyBulk, S: "x"})), "*1\r\n*1\r\n*1\r\n*1000\r\n" + strings.Repeat("$1\r\nx\r\n", 1000)},
		{many(5, tower(3, none)), "*5\r\n" + strings.Repeat("*1\r\n*1\r\n*1\r\n$-1\r\n", 5)},
	}
	for _, one := range list[:23:23] {
		list = append(list, sample{tower(1, one.r), "*1\r\n" + one.s})
	}
	return list
}

// P3.1: right replies of all six kinds, and their bytes.
func TestEncode(t *testing.T) {
	for _, c := range samples() {
		checkRight(t, c.r, c.s)
		if !modelRight(c.r, 0) || modelBytes(c.r) != c.s {
			t.Errorf("the model holds %s wrong", brief(c.r))
		}
	}
	checkRight(t, api.Reply{Kind: api.ReplyArray, L: []api.Reply{
		{Kind: api.ReplySimple, S: "a"}, {Kind: api.ReplyArray, L: []api.Reply{{Kind: api.ReplyInt, N: 1}, {Kind: api.ReplyArray}}}, {Kind: api.ReplyBulk, S: "x"}, {Kind: api.ReplyError, S: "e"}, {Kind: api.ReplyNil},
	}}, "*5\r\n+a\r\n*2\r\n:1\r\n*0\r\n$1\r\nx\r\n-e\r\n$-1\r\n")
}

// P3.1: nil and empty lists are one.
func TestEncodeEmptyLists(t *testing.T) {
	empty := []api.Reply{}
	spare := make([]api.Reply, 0, 3)
	for _, l := range [][]api.Reply{empty, spare} {
		checkRight(t, api.Reply{Kind: api.ReplyArray, L: l}, "*0\r\n")
		checkRight(t, api.Reply{Kind: api.ReplyInt, N: 5, L: l}, ":5\r\n")
		checkRight(t, api.Reply{Kind: api.ReplySimple, S: "a", L: l}, "+a\r\n")
		checkRight(t, api.Reply{Kind: api.ReplyError, S: "a", L: l}, "-a\r\n")
		checkRight(t, api.Reply{Kind: api.ReplyBulk, S: "a", L: l}, "$1\r\na\r\n")
		checkRight(t, api.Reply{Kind: api.ReplyNil, L: l}, "$-1\r\n")
	}
}

// wrongs are replies that are not right, each for one reason.
func wrongs() []api.Reply {
	list := []api.Reply{{}, {Kind: 7}, {Kind: 8}, {Kind: -1}, {Kind: math.MaxInt}, {Kind: math.MinInt}, {S: "x"}, {N: 1}, {Kind: 256 + api.ReplyNil}}
	for _, kind := range []int{api.ReplySimple, api.ReplyError} {
		for _, s := range []string{"\r", "\n", end, "a\r", "a\n", "\ra", "\na", "a\rb", "a\nb", "a\r\nb", long(601), long(599) + end, long(599) + "\r", long(599) + "\n", strings.Repeat("é", 301)} {
			list = append(list, api.Reply{Kind: kind, S: s})
		}
	}
	list = append(list, api.Reply{Kind: api.ReplyBulk, S: long(601)}, api.Reply{Kind: api.ReplyBulk, S: strings.Repeat("é", 301)}, api.Reply{Kind: api.ReplyBulk, S: long(1 << 20)})
	seven := api.Reply{Kind: api.ReplyInt, N: 7}
	for kind := api.ReplySimple; kind <= api.ReplyArray; kind++ {
		if kind != api.ReplyInt {
			list = append(list, api.Reply{Kind: kind, N: 1}, api.Reply{Kind: kind, N: -1}, api.Reply{Kind: kind, N: math.MinInt64})
		}
		if kind > api.ReplyBulk || kind == api.ReplyInt {
			list = append(list, api.Reply{Kind: kind, S: "x"}, api.Reply{Kind: kind, S: "\x00"})
		}
		if kind != api.ReplyArray {
			list = append(list, api.Reply{Kind: kind, L: []api.Reply{seven}}, api.Reply{Kind: kind, L: []api.Reply{{}}}, api.Reply{Kind: kind, L: make([]api.Reply, 2000)})
		}
	}
	list = append(list, api.Reply{Kind: api.ReplyArray, N: 1, L: []api.Reply{seven}}, api.Reply{Kind: api.ReplyArray, S: "x", L: []api.Reply{seven}})
	list = append(list, many(1001, seven), many(1001, many(0, seven)), many(1<<20, seven), tower(5, seven), tower(4, many(0, seven)), tower(6, seven), tower(4, many(1001, seven)))
	return list
}

// P3.1: what is not right, alone and within arrays, has no bytes.
func TestEncodeWrong(t *testing.T) {
	seven := api.Reply{Kind: api.ReplyInt, N: 7}
	for _, r := range wrongs() {
		if modelRight(r, 0) {
			t.Errorf("the model holds %s right", brief(r))
		}
		checkWrong(t, r)
		for high := 1; high <= 4; high++ {
			checkWrong(t, tower(high, r))
		}
		for at := range 3 {
			array := many(3, seven)
			array.L[at] = r
			checkWrong(t, array)
			checkWrong(t, api.Reply{Kind: api.ReplyArray, L: []api.Reply{seven, array, seven}})
		}
		last := many(1000, seven)
		last.L[999] = r
		checkWrong(t, last)
	}
}

// P3.1: arrays stand behind each other as they like, but not more than four within each other.
func TestEncodeHigh(t *testing.T) {
	seven := api.Reply{Kind: api.ReplyInt, N: 7}
	for high := range 9 {
		for _, r := range []api.Reply{tower(high, seven), many(2, tower(high, seven)), {Kind: api.ReplyArray, L: []api.Reply{tower(3, seven), seven, tower(high, seven), tower(1, seven)}}} {
			if !modelRight(r, 0) {
				checkWrong(t, r)
				continue
			}
			checkRight(t, r, modelBytes(r))
		}
	}
}

// P3.1: Simple and the others are such replies, right or not.
func TestReplies(t *testing.T) {
	for _, s := range []string{"", "OK", "a\r\nb", "é\xff", long(600), long(601)} {
		for _, c := range []struct {
			r    api.Reply
			kind int
		}{{frame.Simple(s), api.ReplySimple}, {frame.Err(s), api.ReplyError}, {frame.Bulk(s), api.ReplyBulk}} {
			if !reflect.DeepEqual(c.r, api.Reply{Kind: c.kind, S: s}) {
				t.Errorf("of %.20q: %s", s, brief(c.r))
			}
		}
	}
	for _, n := range []int64{0, 1, -1, 7, math.MaxInt64, math.MinInt64} {
		if r := frame.Int(n); !reflect.DeepEqual(r, api.Reply{Kind: api.ReplyInt, N: n}) {
			t.Errorf("Int(%d) is %v", n, r)
		}
	}
	if r := frame.Nil(); !reflect.DeepEqual(r, api.Reply{Kind: api.ReplyNil}) {
		t.Errorf("Nil() is %v", r)
	}
	seven := frame.Int(7)
	for _, l := range [][]api.Reply{nil, {}, {seven}, {seven, frame.Nil()}, {{}}, {{Kind: 9, N: 4, S: "x", L: []api.Reply{seven, {}}}}, many(1001, seven).L, {tower(6, seven), seven}} {
		if r := frame.Array(l...); !same(r, api.Reply{Kind: api.ReplyArray, L: l}) {
			t.Errorf("Array(%s) is %s", brief(l), brief(r))
		}
	}
	if r := frame.Array(); !same(r, api.Reply{Kind: api.ReplyArray}) {
		t.Errorf("Array() is %v", r)
	}
	checkRight(t, frame.Array(frame.Int(7), frame.Nil()), "*2\r\n:7\r\n$-1\r\n")
	checkRight(t, frame.Array(frame.Simple("a"), frame.Err("b"), frame.Bulk("c"), frame.Array(frame.Array())), "*4\r\n+a\r\n-b\r\n$1\r\nc\r\n*1\r\n*0\r\n")
	checkWrong(t, frame.Simple("a\n"))
	checkWrong(t, frame.Array(api.Reply{}))
}

// stain changes all of a list and of those within, their spare room too.
func stain(l []api.Reply) {
	for _, r := range l {
		stain(r.L)
	}
	l = l[:cap(l)]
	for at := range l {
		l[at] = api.Reply{Kind: 99, S: "stained"}
	}
}

// P3.1: an array shares no list with what it is made of, and none of its lists is another one.
func TestArrayIsNew(t *testing.T) {
	pair := make([]api.Reply, 2, 8)
	pair[0], pair[1] = frame.Int(1), frame.Int(2)
	twice := make([]api.Reply, 2, 8)
	twice[0] = api.Reply{Kind: api.ReplyArray, L: pair}
	twice[1] = twice[0]

	first, second := frame.Array(twice...), frame.Array(twice...)
	stain(first.L[0].L)
	checkRight(t, api.Reply{Kind: api.ReplyArray, L: first.L[1:]}, "*1\r\n*2\r\n:1\r\n:2\r\n")
	stain(first.L)
	checkRight(t, second, "*2\r\n*2\r\n:1\r\n:2\r\n*2\r\n:1\r\n:2\r\n")
	checkRight(t, api.Reply{Kind: api.ReplyArray, L: twice}, "*2\r\n*2\r\n:1\r\n:2\r\n*2\r\n:1\r\n:2\r\n")
	for _, r := range append(slices.Clone(pair[2:8]), twice[2:8]...) {
		if r.Kind != 0 {
			t.Errorf("spare room holds %v", r)
		}
	}
	stain(twice)
	checkRight(t, second, "*2\r\n*2\r\n:1\r\n:2\r\n*2\r\n:1\r\n:2\r\n")
}

// P3.1: what is handed in stays as it is, spare room too.
func TestEncodeLeavesAlone(t *testing.T) {
	l := make([]api.Reply, 2, 6)
	l[0], l[1] = frame.Int(1), frame.Array(frame.Bulk("x"))
	l[:6][4] = frame.Int(44)
	r := api.Reply{Kind: api.ReplyArray, L: l}
	for range 2 {
		checkRight(t, r, "*2\r\n:1\r\n*1\r\n$1\r\nx\r\n")
		frame.Array(l...)
	}
	want := []api.Reply{frame.Int(1), frame.Array(frame.Bulk("x")), {}, {}, frame.Int(44), {}}
	if !slices.EqualFunc(l[:6], want, same) {
		t.Errorf("left is %v", l[:6])
	}
}

// P3.1: replies that are as deep as may be, or within themselves, end each call.
func TestDeepEnds(t *testing.T) {
	deep := tower(1<<16-1, frame.Int(7))
	checkWrong(t, deep)
	r := frame.Array(deep)
	for range 1 << 16 {
		if r.Kind != api.ReplyArray || len(r.L) != 1 {
			t.Fatalf("in the deep one stands %s", brief(r.Kind))
		}
		r = r.L[0]
	}
	if !same(r, frame.Int(7)) {
		t.Errorf("at the end stands %s", brief(r))
	}
	for _, size := range []int{1, 2, 1000} {
		l := make([]api.Reply, size)
		for at := range l {
			l[at] = api.Reply{Kind: api.ReplyArray, L: l}
		}
		for _, r := range []api.Reply{l[0], l[size-1], frame.Array(l...)} {
			if s, e := frame.Encode(r); frame.Right(r) || s != "" || e != api.ErrFrame {
				t.Errorf("a list of %d that is within itself is right, or has %d bytes, %d", size, len(s), e)
			}
		}
	}
}

// P3.2: right bytes are their replies, and what is behind them is left.
func TestDecode(t *testing.T) {
	for _, c := range samples() {
		for _, rest := range []string{"", "+", end, "\x00", "x", ":8\r\n", c.s, long(5000)} {
			check(t, c.s+rest, c.r, rest, api.OK)
		}
	}
	for _, c := range []struct {
		s, rest string
		want    api.Reply
	}{
		{":1\r\n:2\r\n", ":2\r\n", frame.Int(1)},
		{"*1\r\n:1\r\n:2\r\n", ":2\r\n", frame.Array(frame.Int(1))},
		{"*0\r\n:2\r\n", ":2\r\n", frame.Array()},
		{"$-1\r\nab\r\n", "ab\r\n", frame.Nil()},
		{"$0\r\n\r\n\r\n", end, frame.Bulk("")},
		{"+\r\n\r\n", end, frame.Simple("")},
		{"-1\r\n", "", frame.Err("1")},
		{"*2\r\n*0\r\n*1\r\n:1\r\n\r", "\r", frame.Array(frame.Array(), frame.Array(frame.Int(1)))},
	} {
		check(t, c.s, c.want, c.rest, api.OK)
	}
}

// P3.2: no bytes, first bytes of none of the five, and no END yet.
func TestDecodeBegin(t *testing.T) {
	checkFault(t, "", api.ErrMore)
	for b := range 256 {
		s := string([]byte{byte(b)})
		if strings.Contains("+-:$*", s) {
			for _, behind := range []string{"", "\r", "\n", "\n\r", "x", "-", "\x00", "\r\r", long(600), long(601), long(600) + "\r", "1\r", "01", "99999"} {
				checkFault(t, s+behind, api.ErrMore)
				checkFault(t, "*1\r\n"+s+behind, api.ErrMore)
			}
			for _, behind := range []string{long(602), long(603), long(601) + "\r", long(1 << 20), strings.Repeat("\n\r", 301)} {
				checkFault(t, s+behind, api.ErrFrame)
				checkFault(t, "*1\r\n"+s+behind, api.ErrFrame)
			}
			continue
		}
		for _, behind := range []string{"", end, "1\r\n", "\r", long(602), "+OK\r\n"} {
			checkFault(t, s+behind, api.ErrFrame)
			checkFault(t, "*1\r\n"+s+behind, api.ErrFrame)
		}
	}
}

// P3.2: what stands up to the first END is a reply's, or ErrFrame.
func TestDecodeWrongHeads(t *testing.T) {
	for _, s := range []string{
		"+\r\r\n", "+\n\r\n", "+a\rb\r\n", "+a\nb\r\n", "-\r\r\n", "-a\nb\r\n", "-a\rb\r\n", "+\r\r\r\n", "+a\n\r\n", "+a\n\r\r\n",
		"+" + long(601) + end, "-" + long(601) + end, "+" + long(1<<20) + end, "+" + long(600) + "\r\r\n", "-" + long(600) + "\n\r\n",
		":\r\n", ":-\r\n", ":+1\r\n", ":01\r\n", ":-0\r\n", ":00\r\n", ": 1\r\n", ":1 \r\n", ":1.0\r\n", ":x\r\n", ":1\r\r\n", ":1\n\r\n", ":\xff\r\n", ":9223372036854775808\r\n", ":-9223372036854775809\r\n", ":18446744073709551616\r\n", ":" + strings.Repeat("9", 601) + end, ":" + strings.Repeat("9", 1<<20) + end,
		"$\r\n", "$-\r\n", "$-2\r\n", "$-0\r\n", "$-01\r\n", "$+1\r\nx\r\n", "$01\r\nx\r\n", "$00\r\n\r\n", "$ 1\r\nx\r\n", "$1 \r\nx\r\n", "$x\r\n", "$601\r\n", "$601\r\n" + long(601) + end, "$1000\r\n", "$4294967296\r\n", "$4294967297\r\nx\r\n", "$9223372036854775807\r\n", "$-9223372036854775808\r\n", "$9223372036854775808\r\n", "$18446744073709551617\r\nx\r\n", "$18446744073709551615\r\n", "$1\n\r\nx\r\n", "$-1\r\r\n",
		"*\r\n", "*-\r\n", "*-1\r\n", "*-2\r\n", "*-0\r\n", "*+1\r\n:1\r\n", "*01\r\n:1\r\n", "*00\r\n", "*x\r\n", "*1001\r\n", "*1001\r\n" + strings.Repeat(":1\r\n", 1001), "*4294967296\r\n", "*9223372036854775807\r\n", "*-9223372036854775808\r\n", "*18446744073709551616\r\n", "*1 \r\n:1\r\n", "*1\r\r\n:1\r\n",
	} {
		checkFault(t, s, api.ErrFrame)
		checkFault(t, s+"+OK\r\n", api.ErrFrame)
		for high := 1; high <= 4; high++ {
			checkFault(t, strings.Repeat("*1\r\n", high)+s, api.ErrFrame)
		}
		checkFault(t, "*3\r\n:1\r\n"+s+":1\r\n", api.ErrFrame)
	}
}

// P3.2: a bulk asks for its bytes and for two more, and then for these to be an END.
func TestDecodeBulk(t *testing.T) {
	for s, want := range map[string]api.Errno{
		"$0\r\n": api.ErrMore, "$0\r\n\r": api.ErrMore, "$0\r\nx": api.ErrMore, "$0\r\nxy": api.ErrFrame, "$0\r\n\n\r": api.ErrFrame, "$0\r\n\r\r\n": api.ErrFrame, "$0\r\nx\r\n": api.ErrFrame,
		"$1\r\n": api.ErrMore, "$1\r\nx": api.ErrMore, "$1\r\nx\r": api.ErrMore, "$1\r\nxy": api.ErrMore, "$1\r\nxyz": api.ErrFrame, "$1\r\nxy\r\n": api.ErrFrame, "$1\r\nx\n\n": api.ErrFrame, "$1\r\nx\r\r": api.ErrFrame, "$1\r\nx\n\r": api.ErrFrame, "$1\r\n\r\n": api.ErrMore, "$1\r\n\r\n\r": api.ErrFrame,
		"$3\r\na\r\n": api.ErrMore, "$3\r\na\r\n\r": api.ErrMore, "$3\r\nab\r\n": api.ErrMore, "$3\r\nab\r\n\n": api.ErrFrame, "$3\r\nabcd\r\n": api.ErrFrame,
		"$600\r\n" + long(600): api.ErrMore, "$600\r\n" + long(601): api.ErrMore, "$600\r\n" + long(602): api.ErrFrame, "$600\r\n" + long(599) + end: api.ErrMore, "$600\r\n" + long(601) + end: api.ErrFrame, "$600\r\n" + long(600) + "\r": api.ErrMore,
	} {
		checkFault(t, s, want)
		for high := 1; high <= 4; high++ {
			checkFault(t, strings.Repeat("*1\r\n", high)+s, want)
		}
	}
}

// P3.2: an array tells what is told of its first reply that is told an error.
func TestDecodeArray(t *testing.T) {
	for s, want := range map[string]api.Errno{
		"*1\r\n": api.ErrMore, "*1000\r\n": api.ErrMore, "*2\r\n:1\r\n": api.ErrMore, "*2\r\n:1\r\n:": api.ErrMore, "*2\r\n:1\r\n:2\r": api.ErrMore, "*2\r\n:1\r\n?": api.ErrFrame, "*2\r\n?": api.ErrFrame,
		"*2\r\n:01\r\n$1\r\nx": api.ErrFrame, "*2\r\n$1\r\nx": api.ErrMore, "*2\r\n$5\r\nx\r\n:01\r\n": api.ErrFrame, "*2\r\n$9\r\nx\r\n:01\r\n": api.ErrMore, "*2\r\n$1\r\nxy\r\n$1\r\n": api.ErrFrame,
		"*3\r\n:1\r\n:x\r\n": api.ErrFrame, "*3\r\n:1\r\n$-2\r\n$9\r\n": api.ErrFrame, "*3\r\n:1\r\n*1\r\n": api.ErrMore, "*2\r\n*2\r\n:1\r\n:1\r\n": api.ErrMore, "*2\r\n*1\r\n:1\r\n?": api.ErrFrame, "*2\r\n*2\r\n:1\r\n?:2\r\n:3\r\n": api.ErrFrame,
		"*1\r\n*1001\r\n": api.ErrFrame, "*1\r\n*-1\r\n": api.ErrFrame, "*2\r\n*-1\r\n": api.ErrFrame, "*1\r\n\r\n": api.ErrFrame, "*1\r\n :1\r\n": api.ErrFrame,
		"*999\r\n" + strings.Repeat(":1\r\n", 998): api.ErrMore, "*1000\r\n" + strings.Repeat(":1\r\n", 999): api.ErrMore, "*1000\r\n" + strings.Repeat(":1\r\n", 999) + "x": api.ErrFrame,
	} {
		checkFault(t, s, want)
		checkFault(t, "*2\r\n:9\r\n"+s, want)
		checkFault(t, "*2\r\n"+s, want)
		checkFault(t, "*1\r\n*2\r\n*0\r\n"+s, want)
	}
}

// P3.2: an array within four others is wrong, as soon as its END is there.
func TestDecodeHigh(t *testing.T) {
	four := strings.Repeat("*1\r\n", 4)
	check(t, four+":7\r\n*", tower(4, frame.Int(7)), "*", api.OK)
	checkFault(t, four+"*", api.ErrMore)
	checkFault(t, four+"*0", api.ErrMore)
	checkFault(t, four+"*0\r", api.ErrMore)
	for _, s := range []string{"*0\r\n", "*1\r\n", "*1\r\n:1\r\n", "*1000\r\n", "*1001\r\n", "*x\r\n"} {
		checkFault(t, four+s, api.ErrFrame)
		checkFault(t, four[4:]+"*2\r\n:1\r\n"+s, api.ErrFrame)
		checkFault(t, "*2\r\n"+four[4:]+":1\r\n"+four+s, api.ErrFrame)
	}
	check(t, "*2\r\n"+four[4:]+":7\r\n"+four[4:]+":7\r\n", many(2, tower(3, frame.Int(7))), "", api.OK)
	check(t, "*3\r\n*1\r\n*1\r\n*0\r\n*0\r\n"+four[4:]+"$-1\r\n", frame.Array(tower(2, frame.Array()), frame.Array(), tower(3, frame.Nil())), "", api.OK)
}

// P3.2: texts put together of pieces of bytes, held against the document's words.
func TestDecodePieces(t *testing.T) {
	pieces := []string{"+", "-", ":", "$", "*", "\r", "\n", end, "0", "1", "2", "x", "*1\r\n", "*2\r\n", "$1\r\n", ":7\r\n", "$-1\r\n", "*0\r\n"}
	texts := []string{""}
	for range 4 {
		var longer []string
		for _, s := range texts {
			for _, p := range pieces {
				checkModel(t, s+p)
				longer = append(longer, s+p)
			}
		}
		texts = longer
	}
	r := rand.New(rand.NewPCG(5, 6))
	told := map[api.Errno]int{}
	for range 200000 {
		var b strings.Builder
		for range r.IntN(12) {
			b.WriteString(pieces[r.IntN(len(pieces))])
		}
		checkModel(t, b.String())
		_, _, e := frame.Decode(b.String())
		told[e]++
	}
	if told[api.OK] < 1000 || told[api.ErrMore] < 1000 || told[api.ErrFrame] < 1000 {
		t.Errorf("told was %v", told)
	}
}

// P3.2: what is answered is new memory, and no two of its lists are one.
func TestDecodeIsNew(t *testing.T) {
	s := "*3\r\n*2\r\n:1\r\n:2\r\n*2\r\n:1\r\n:2\r\n*2\r\n:1\r\n:2\r\n"
	first, _, _ := frame.Decode(s)
	second, _, _ := frame.Decode(s)
	want, _, _ := modelDecode(s, 0)
	stain(first.L[0].L)
	if !same(first.L[1], want.L[1]) || !same(first.L[2], want.L[2]) || !same(second, want) {
		t.Errorf("stained: %v, %v", first, second)
	}
	stain(first.L)
	check(t, s, want, "", api.OK)
	if !same(second, want) {
		t.Errorf("stained: %v", second)
	}
}

// P3.2: a long way to an END, and many replies, take no time to speak of.
func TestDecodeSoon(t *testing.T) {
	begin := time.Now()
	checkFault(t, "*1000\r\n"+strings.Repeat(":1\r\n", 999)+"+"+long(1<<24), api.ErrFrame)
	checkFault(t, strings.Repeat("*1000\r\n", 1<<20), api.ErrFrame)
	rest := strings.Repeat("*1000\r\n", 1<<20)
	check(t, "*1000\r\n"+strings.Repeat("*0\r\n", 1000)+rest, many(1000, frame.Array()), rest, api.OK)
	great := many(1000, many(300, frame.Bulk("x")))
	s, e := frame.Encode(great)
	if e != api.OK {
		t.Fatalf("it is %d", e)
	}
	check(t, s, great, "", api.OK)
	if d := time.Since(begin); d > 10*time.Second {
		t.Errorf("it took %v", d)
	}
}

// some is a reply that is right mostly, within so many arrays.
func some(r *rand.Rand, around int) api.Reply {
	texts := []string{"", "a", "OK", "1", "-1", "$", "é", "\xff", "a b", long(600)}
	more := append(texts, "\r", "\n", end, "a\r\n", "$1\r\nx\r\n", "*0\r\n")
	switch kind := 1 + r.IntN(6); kind {
	case api.ReplySimple, api.ReplyError:
		if r.IntN(40) == 0 {
			texts = more
		}
		return api.Reply{Kind: kind, S: texts[r.IntN(len(texts))]}
	case api.ReplyInt:
		return frame.Int(int64(r.Uint64()) >> r.IntN(64))
	case api.ReplyBulk:
		return frame.Bulk(more[r.IntN(len(more))])
	case api.ReplyNil:
		return frame.Nil()
	}
	array := frame.Array()
	if around > 4 {
		return array
	}
	for range r.IntN(4) {
		array.L = append(array.L, some(r, around+1))
	}
	return array
}

// P3.3: replies and bytes are one to one, there and back.
func TestOneToOne(t *testing.T) {
	r := rand.New(rand.NewPCG(7, 8))
	whose := map[string]api.Reply{}
	wrong := 0
	for range 50000 {
		one := some(r, 0)
		if !modelRight(one, 0) {
			wrong++
			checkWrong(t, one)
			continue
		}
		s := modelBytes(one)
		checkRight(t, one, s)
		check(t, s, one, "", api.OK)
		check(t, s+"\r\n?", one, "\r\n?", api.OK)
		if other, is := whose[s]; is && !same(one, other) {
			t.Errorf("%v and %v have the bytes %q", one, other, s)
		}
		whose[s] = one
	}
	if wrong < 100 || len(whose) < 10000 {
		t.Errorf("%d wrong ones, %d right ones", wrong, len(whose))
	}
}

// P3.3: bytes of which one is changed, put in or left out are another reply's, or no reply's.
func TestChanged(t *testing.T) {
	for _, s := range []string{"+OK\r\n", "-E\r\n", ":-17\r\n", "$2\r\nxy\r\n", "$-1\r\n", "*2\r\n:7\r\n$1\r\nx\r\n", "*1\r\n*1\r\n*1\r\n*1\r\n:1\r\n"} {
		one, _, _ := frame.Decode(s)
		for at := range s {
			for b := range 256 {
				for _, other := range []string{s[:at] + string([]byte{byte(b)}) + s[at+1:], s[:at] + string([]byte{byte(b)}) + s[at:]} {
					checkModel(t, other)
					r, rest, e := frame.Decode(other)
					if e == api.OK && other[:len(other)-len(rest)] != s && same(r, one) {
						t.Errorf("%q and %q are one", s, other)
					}
				}
			}
			checkModel(t, s[:at]+s[at+1:])
		}
	}
}

// P3.3: each beginning of a reply's bytes asks for more, so none is another reply's.
func TestBeginnings(t *testing.T) {
	r := rand.New(rand.NewPCG(9, 10))
	all := samples()
	for range 3000 {
		if one := some(r, 0); modelRight(one, 0) {
			all = append(all, sample{one, modelBytes(one)})
		}
	}
	for _, c := range all {
		step := 1 + len(c.s)/2000
		for at := 0; at < len(c.s); at += step {
			checkFault(t, c.s[:at], api.ErrMore)
		}
		for at := max(0, len(c.s)-20); at < len(c.s); at++ {
			checkFault(t, c.s[:at], api.ErrMore)
		}
	}
	slices.SortFunc(all, func(a, b sample) int { return strings.Compare(a.s, b.s) })
	for at, c := range all[1:] {
		if before := all[at].s; before != c.s && strings.HasPrefix(c.s, before) {
			t.Errorf("%.60q begins %.60q", before, c.s)
		}
	}
}
