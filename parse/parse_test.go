package parse_test

import (
	"fmt"
	"math/rand/v2"
	"regexp"
	"slices"
	"strconv"
	"strings"
	"testing"
	"time"

	"palio/api"
	"palio/parse"
)

const end = "\r\n"

var digits = regexp.MustCompile(`^(0|-?[1-9][0-9]*)$`)

func modelNumber(s string, most int64) (int64, bool) {
	n, err := strconv.ParseInt(s, 10, 64)
	return n, err == nil && digits.MatchString(s) && n <= most
}

// modelHead is the number between a first byte and the first END, and what is behind that.
func modelHead(s string, most int64) (int64, string, api.Errno) {
	at := strings.Index(s, end)
	if at < 0 && len(s) > 32 {
		return 0, "", api.ErrProto
	}
	if at < 0 {
		return 0, "", api.ErrMore
	}
	n, ok := modelNumber(s[1:at], most)
	if !ok {
		return 0, "", api.ErrProto
	}
	return n, s[at+2:], api.OK
}

// modelSplit goes by the document's words, one after the other.
func modelSplit(s string) ([]string, string, api.Errno) {
	if !strings.HasPrefix(s, "*") {
		return modelLine(s)
	}
	n, rest, e := modelHead(s, 64)
	if e != api.OK {
		return nil, s, e
	}
	var list []string
	for range n {
		if rest == "" {
			return nil, s, api.ErrMore
		}
		if rest[0] != '$' {
			return nil, s, api.ErrProto
		}
		size, behind, e := modelHead(rest, 512)
		switch {
		case e != api.OK:
			return nil, s, e
		case size < 0:
			return nil, s, api.ErrProto
		case int64(len(behind)) < size+2:
			return nil, s, api.ErrMore
		case behind[size:size+2] != end:
			return nil, s, api.ErrProto
		}
		list, rest = append(list, behind[:size]), behind[size+2:]
	}
	return list, rest, api.OK
}

func modelLine(s string) ([]string, string, api.Errno) {
	at := strings.IndexByte(s, '\n')
	if at > 1024 || at < 0 && len(s) > 1024 {
		return nil, s, api.ErrProto
	}
	if at < 0 {
		return nil, s, api.ErrMore
	}
	list := strings.FieldsFunc(strings.TrimSuffix(s[:at], "\r"), func(r rune) bool { return r == ' ' || r == '\t' })
	if len(list) > 64 {
		return nil, s, api.ErrProto
	}
	return list, s[at+1:], api.OK
}

func modelBytes(l []string) string {
	s := fmt.Sprintf("*%d\r\n", len(l))
	for _, arg := range l {
		s += fmt.Sprintf("$%d\r\n%s\r\n", len(arg), arg)
	}
	return s
}

// brief is how something is told, cut off where it would be long.
func brief(v any) string {
	s := fmt.Sprintf("%q", v)
	return s[:min(len(s), 80)]
}

func check(t *testing.T, s string, want []string, wantRest string, wantErr api.Errno) {
	t.Helper()
	l, rest, e := parse.Split(s)
	if !slices.Equal(l, want) || rest != wantRest || e != wantErr {
		t.Errorf("Split(%s of %d) is %d: %s, %s of %d, %d, not %d: %s, %s of %d, %d", brief(s), len(s), len(l), brief(l), brief(rest), len(rest), e, len(want), brief(want), brief(wantRest), len(wantRest), wantErr)
	}
}

// checkFault holds that all bytes are left, beside no arguments.
func checkFault(t *testing.T, s string, want api.Errno) {
	t.Helper()
	check(t, s, nil, s, want)
}

func checkModel(t *testing.T, s string) {
	t.Helper()
	l, rest, e := modelSplit(s)
	check(t, s, l, rest, e)
}

func long(n int) string { return strings.Repeat("x", n) }

// many are so many arguments, no two next to each other alike.
func many(n int) []string {
	var l []string
	for k := range n {
		l = append(l, strconv.Itoa(k%10))
	}
	return l
}

func rests() []string {
	return []string{"", "*", "$", "\r", "\n", end, "\x00", "x", "*1\r\n$1\r\na\r\n", "PING\n", "*x\r\n", long(5000)}
}

// P4.1: ordinary requests of both kinds, and what is behind them.
func TestSplit(t *testing.T) {
	for _, c := range []struct {
		s    string
		want []string
	}{
		{"*2\r\n$3\r\nGET\r\n$1\r\nk\r\n", []string{"GET", "k"}},
		{"GET  k\n", []string{"GET", "k"}},
		{"GET k\r\n", []string{"GET", "k"}},
		{"*1\r\n$4\r\nPING\r\n", []string{"PING"}},
		{"PING\r\n", []string{"PING"}},
		{"*4\r\n$4\r\nZADD\r\n$1\r\nk\r\n$2\r\n-5\r\n$3\r\na b\r\n", []string{"ZADD", "k", "-5", "a b"}},
		{"zadd k -5 a\n", []string{"zadd", "k", "-5", "a"}},
		{"*1\r\n$0\r\n\r\n", []string{""}},
		{"*3\r\n$0\r\n\r\n$2\r\n\r\n\r\n$0\r\n\r\n", []string{"", end, ""}},
		{"*2\r\n$5\r\n$1\r\nx\r\n$7\r\n*1\r\n$0\r\r\n", []string{"$1\r\nx", "*1\r\n$0\r"}},
		{"*1\r\n$4\r\n\xff\x00\xc3\xa9\r\n", []string{"\xff\x00é"}},
		{"*1\r\n$10\r\n0123456789\r\n", []string{"0123456789"}},
		{"$1\r\n", []string{"$1"}},
		{"+OK\n", []string{"+OK"}},
		{" *1\r\n", []string{"*1"}},
		{"a*1\r\n", []string{"a*1"}},
		{"a *1\n", []string{"a", "*1"}},
		{"1\n", []string{"1"}},
	} {
		for _, rest := range rests() {
			check(t, c.s+rest, c.want, rest, api.OK)
		}
	}
}

// P4.1: a number of arguments that is a number's digits, of at most 64; of one below 1 there are none.
func TestSplitCounts(t *testing.T) {
	for _, n := range []int{1, 2, 9, 10, 63, 64} {
		for _, rest := range rests() {
			check(t, modelBytes(many(n))+rest, many(n), rest, api.OK)
		}
	}
	for _, s := range []string{"0", "-1", "-9", "-10", "-64", "-65", "-4294967295", "-9223372036854775807", "-9223372036854775808"} {
		for _, rest := range rests() {
			check(t, "*"+s+end+rest, nil, rest, api.OK)
		}
	}
	for _, s := range []string{
		"", "-", "+1", "01", "001", "00", "-0", "-01", " 1", "1 ", "1\t", "\t1", "1\r", "1\n", "\r1", "\n1", "x", "1x", "x1", "0x1", "1.0", "1e0", "\xff", "\uff11", "--1", "$", "*", "*1",
		"65", "66", "100", "640", "4294967297", "9223372036854775807", "9223372036854775808", "-9223372036854775809", "18446744073709551617", "1111111111111111111111111111", strings.Repeat("1", 29), strings.Repeat("1", 30), strings.Repeat("1", 31), strings.Repeat("1", 32), strings.Repeat("0", 29) + "1", long(1000), long(1 << 20),
	} {
		for _, rest := range append(rests(), strings.Repeat("$1\r\na\r\n", 66)) {
			checkFault(t, "*"+s+end+rest, api.ErrProto)
		}
	}
	for _, n := range []int{65, 66, 100} {
		checkFault(t, modelBytes(many(n)), api.ErrProto)
	}
}

// P4.1: an argument begins with `$`, at each place, and is asked for, if there is none.
func TestSplitMarks(t *testing.T) {
	for ahead := range 4 {
		begin := "*5\r\n" + strings.Repeat("$1\r\na\r\n", ahead)
		checkFault(t, begin, api.ErrMore)
		checkFault(t, "*64\r\n"+strings.Repeat("$1\r\na\r\n", 60+ahead), api.ErrMore)
		for b := range 256 {
			s := string([]byte{byte(b)})
			for _, behind := range []string{"", "1", "1\r\na\r\n", end} {
				want := api.ErrProto
				if s == "$" && behind != end {
					want = api.ErrMore
				}
				checkFault(t, begin+s+behind, want)
			}
		}
	}
}

// P4.1: how many bytes an argument has is a number's digits, 0 to 512.
func TestSplitLengths(t *testing.T) {
	for ahead := range 3 {
		begin := "*" + strconv.Itoa(ahead+1) + end + strings.Repeat("$1\r\na\r\n", ahead)
		args := slices.Repeat([]string{"a"}, ahead)
		for _, n := range []int{0, 1, 2, 9, 10, 99, 100, 511, 512} {
			for _, rest := range rests() {
				check(t, begin+"$"+strconv.Itoa(n)+end+long(n)+end+rest, append(args[:ahead:ahead], long(n)), rest, api.OK)
			}
		}
		for _, s := range []string{
			"", "-", "-1", "-2", "-512", "-0", "+1", "01", "00", "001", " 1", "1 ", "1\r", "1\n", "\n1", "x", "1x", "0x1", "1.0", "\xff", "\uff11", "$1", "*1",
			"513", "514", "600", "1000", "5120", "4294967296", "4294967297", "9223372036854775807", "-9223372036854775808", "9223372036854775808", "18446744073709551617", strings.Repeat("0", 29) + "1", strings.Repeat("1", 30), strings.Repeat("1", 31), long(1000),
		} {
			for _, behind := range []string{"", "a", "a\r\n", end, long(513) + end, long(1000)} {
				checkFault(t, begin+"$"+s+end+behind, api.ErrProto)
			}
		}
	}
}

// P4.1: where an END is missing there must be more, up to 32 bytes from the first byte on; with 33 they are wrong.
func TestSplitHeads(t *testing.T) {
	fills := []func(n int) string{
		func(n int) string { return strings.Repeat("1", n) },
		long,
		func(n int) string { return strings.Repeat("\n", n) },
		func(n int) string { return strings.Repeat("\r", n) },
		func(n int) string { return strings.Repeat("$", n) },
		func(n int) string { return strings.Repeat("1", max(n-1, 0)) + "\r"[:min(n, 1)] },
	}
	begins := []string{"*", "*1\r\n$", "*2\r\n$1\r\na\r\n$", "*3\r\n$40\r\n" + long(40) + "\r\n$0\r\n\r\n$", "*64\r\n" + strings.Repeat("$1\r\na\r\n", 63) + "$"}
	for _, begin := range begins {
		for _, fill := range fills {
			for n := range 32 {
				checkFault(t, begin+fill(n), api.ErrMore)
			}
			for _, n := range []int{32, 33, 34, 100, 1023, 1024, 1025, 1 << 20} {
				checkFault(t, begin+fill(n), api.ErrProto)
				checkFault(t, begin+fill(n)+end, api.ErrProto)
			}
			for _, n := range []int{25, 28, 29, 30, 31} {
				checkFault(t, begin+fill(n)+end, api.ErrProto)
			}
		}
	}
}

// P4.1: an argument's bytes, and two more, are asked for, and only then these are an END or wrong.
func TestSplitBulks(t *testing.T) {
	for s, want := range map[string]api.Errno{
		"$0\r\n": api.ErrMore, "$0\r\n\r": api.ErrMore, "$0\r\nx": api.ErrMore, "$0\r\nxy": api.ErrProto, "$0\r\n\n\r": api.ErrProto, "$0\r\n\r\r": api.ErrProto, "$0\r\n\n\n": api.ErrProto, "$0\r\nx\r\n": api.ErrProto,
		"$1\r\n": api.ErrMore, "$1\r\na": api.ErrMore, "$1\r\na\r": api.ErrMore, "$1\r\nab": api.ErrMore, "$1\r\na\n": api.ErrMore, "$1\r\nabc": api.ErrProto, "$1\r\nab\r\n": api.ErrProto, "$1\r\na\n\r": api.ErrProto, "$1\r\na\r\r": api.ErrProto, "$1\r\na\n\n": api.ErrProto, "$1\r\na\rb": api.ErrProto, "$1\r\nab\n": api.ErrProto, "$1\r\n\r\n": api.ErrMore, "$1\r\n\r\n\r": api.ErrProto,
		"$3\r\nab\r\n": api.ErrMore, "$3\r\na\r\n\r": api.ErrMore, "$3\r\nab\r\n\n": api.ErrProto, "$3\r\nabcd\r\n": api.ErrProto, "$3\r\nabc\r": api.ErrMore,
		"$512\r\n": api.ErrMore, "$512\r\n" + long(512): api.ErrMore, "$512\r\n" + long(513): api.ErrMore, "$512\r\n" + long(514): api.ErrProto, "$512\r\n" + long(512) + "\r": api.ErrMore, "$512\r\n" + long(511) + end: api.ErrMore, "$512\r\n" + long(513) + end: api.ErrProto,
	} {
		for ahead := range 4 {
			begin := strings.Repeat("$1\r\na\r\n", ahead) + s
			checkFault(t, "*"+strconv.Itoa(ahead+1)+end+begin, want)
			checkFault(t, "*"+strconv.Itoa(ahead+2)+end+begin, want)
		}
	}
	for s, want := range map[string]api.Errno{
		"*2\r\n$1\r\nab\r\n$x": api.ErrProto, "*2\r\n$9\r\na\r\n$x\r\n": api.ErrMore, "*2\r\n$1\r\na\r\nx$": api.ErrProto, "*2\r\n$513\r\n": api.ErrProto, "*2\r\n$1\r\na\r\n\r\n": api.ErrProto, "*1\r\n\r\n$1\r\na\r\n": api.ErrProto, "*1\r\n*1\r\n": api.ErrProto, "*1\r\n$\r\n": api.ErrProto,
	} {
		checkFault(t, s, want)
	}
}

// P4.1: a line of words: 1024 bytes ahead of the first 0A are right, 1025 are wrong, and without 0A more are asked for up to 1024.
func TestSplitLine(t *testing.T) {
	for _, n := range []int{1, 31, 32, 33, 100, 1000, 1022, 1023, 1024} {
		for _, rest := range rests() {
			check(t, long(n)+"\n"+rest, []string{long(n)}, rest, api.OK)
			check(t, long(n-1)+end+rest, strings.Fields(long(n-1)), rest, api.OK)
			check(t, strings.Repeat(" ", n)+"\n"+rest, nil, rest, api.OK)
		}
		checkFault(t, long(n), api.ErrMore)
		checkFault(t, long(n-1)+"\r", api.ErrMore)
		checkFault(t, strings.Repeat(" ", n), api.ErrMore)
		checkFault(t, strings.Repeat("\r", n), api.ErrMore)
		checkFault(t, "\x00"+strings.Repeat("*", n-1), api.ErrMore)
	}
	for _, n := range []int{1025, 1026, 2000, 16385, 1 << 20} {
		for _, line := range []string{long(n), strings.Repeat(" ", n), long(n-1) + "\r", strings.Repeat("\r", n), long(10) + strings.Repeat("\t", n-10), strings.Repeat("é", n/2) + long(n%2)} {
			checkFault(t, line, api.ErrProto)
			checkFault(t, line+"\n", api.ErrProto)
			checkFault(t, line+end, api.ErrProto)
			checkFault(t, line+"\nPING\n", api.ErrProto)
		}
	}
	check(t, long(1023)+end, []string{long(1023)}, "", api.OK)
	checkFault(t, long(1024)+end, api.ErrProto)
	checkFault(t, "", api.ErrMore)
	check(t, "\n"+long(5000), nil, long(5000), api.OK)
	check(t, "a\n"+long(5000)+"\n", []string{"a"}, long(5000)+"\n", api.OK)
}

// P4.1: one 0D goes, if it is the last byte ahead of the first 0A; others are bytes like all.
func TestSplitReturns(t *testing.T) {
	for s, want := range map[string][]string{
		"\n": nil, "\r\n": nil, "\r\r\n": {"\r"}, "\r\r\r\n": {"\r\r"}, "a\r\n": {"a"}, "a\r\r\n": {"a\r"}, "\ra\n": {"\ra"}, "\ra\r\n": {"\ra"}, "a\rb\n": {"a\rb"}, "a\rb\r\n": {"a\rb"}, "a \r\n": {"a"}, "a \r \n": {"a", "\r"}, "a \r\r\n": {"a", "\r"}, "a\r \n": {"a\r"}, "a\r b\r\n": {"a\r", "b"}, " \r\n": nil, "\r \n": {"\r"},
	} {
		for _, rest := range rests() {
			check(t, s+rest, want, rest, api.OK)
		}
		checkFault(t, s[:len(s)-1], api.ErrMore)
	}
}

// P4.1: words stand between blanks and tabs, and no other bytes part them.
func TestSplitWords(t *testing.T) {
	for s, want := range map[string][]string{
		" ": nil, "\t": nil, " \t \t": nil, "a": {"a"}, " a": {"a"}, "a ": {"a"}, "\ta": {"a"}, "a\t": {"a"}, "  a\t\t": {"a"}, "a b": {"a", "b"}, "a\tb": {"a", "b"}, "a \t b": {"a", "b"}, "\t a  b\t ": {"a", "b"}, "a b c d": {"a", "b", "c", "d"}, "aa  bb": {"aa", "bb"},
		"a\x00b": {"a\x00b"}, "a\vb\fc": {"a\vb\fc"}, "a\u00a0b": {"a\u00a0b"}, "a\u2003b": {"a\u2003b"}, "a\u0085b \x85\xa0 c": {"a\u0085b", "\x85\xa0", "c"}, "é 世\t\xff": {"é", "世", "\xff"}, "\xe2\x82 \xe2\t\xc3": {"\xe2\x82", "\xe2", "\xc3"}, "\xff\xfe": {"\xff\xfe"}, "\ufffd \xf0\x9f\x98": {"\ufffd", "\xf0\x9f\x98"},
		`"a b"`: {`"a`, `b"`}, `'a b'`: {"'a", "b'"}, `a\ b`: {`a\`, "b"}, "$1 *2 # x": {"$1", "*2", "#", "x"},
	} {
		for _, rest := range rests() {
			check(t, s+"\n"+rest, want, rest, api.OK)
			check(t, s+end+rest, want, rest, api.OK)
		}
		checkFault(t, s, api.ErrMore)
	}
	for b := range 256 {
		s := string([]byte{byte(b)})
		if strings.Contains(" \t\n", s) {
			continue
		}
		check(t, "a"+s+"b\n", []string{"a" + s + "b"}, "", api.OK)
		check(t, "a "+s+" b\n", []string{"a", s, "b"}, "", api.OK)
	}
}

// P4.1: 64 words are a request, 65 are wrong.
func TestSplitManyWords(t *testing.T) {
	for _, n := range []int{1, 2, 63, 64} {
		for _, between := range []string{" ", "\t", "  ", "\t \t"} {
			line := strings.Join(many(n), between)
			for _, rest := range rests() {
				check(t, line+"\n"+rest, many(n), rest, api.OK)
				check(t, " "+line+" \t\r\n"+rest, many(n), rest, api.OK)
			}
			checkFault(t, line, api.ErrMore)
		}
	}
	for _, n := range []int{65, 66, 100, 512} {
		line := strings.Join(many(n), " ")
		checkFault(t, line, api.ErrMore)
		for _, rest := range rests() {
			checkFault(t, line+"\n"+rest, api.ErrProto)
			checkFault(t, line+end+rest, api.ErrProto)
		}
	}
	checkFault(t, strings.Join(many(64), " ")+" \r\r\n", api.ErrProto)
}

// P4.1: texts put together of pieces of bytes, held against the document's words.
func TestSplitPieces(t *testing.T) {
	pieces := []string{"*", "$", "\r", "\n", end, "0", "1", "2", "-1", "x", " ", "\t", "*1\r\n", "*2\r\n", "$1\r\n", "$0\r\n\r\n", "$1\r\na\r\n", "PING\n"}
	texts := []string{""}
	for range 4 {
		var longer []string
		for _, s := range texts {
			for _, p := range pieces {
				checkModel(t, s+p)
				longer = append(longer, s+p)
			}
		}
		texts = longer
	}
	r := rand.New(rand.NewPCG(11, 12))
	told := map[api.Errno]int{}
	for range 200000 {
		var b strings.Builder
		for range r.IntN(14) {
			b.WriteString(pieces[r.IntN(len(pieces))])
		}
		checkModel(t, b.String())
		_, _, e := parse.Split(b.String())
		told[e]++
	}
	if told[api.OK] < 1000 || told[api.ErrMore] < 1000 || told[api.ErrProto] < 1000 {
		t.Errorf("told was %v", told)
	}
}

// P4.1: bytes of which one is changed, put in or left out, held against the document's words.
func TestSplitChanged(t *testing.T) {
	for _, s := range []string{"*2\r\n$3\r\nGET\r\n$1\r\nk\r\n", "*0\r\n", "*-1\r\n*1\r\n$0\r\n\r\n", "*10\r\n" + strings.Repeat("$2\r\nab\r\n", 10), "GET  k\r\n", "\t a\r\n"} {
		for at := range s {
			for b := range 256 {
				checkModel(t, s[:at]+string([]byte{byte(b)})+s[at+1:])
				checkModel(t, s[:at]+string([]byte{byte(b)})+s[at:])
			}
			checkModel(t, s[:at]+s[at+1:])
			checkModel(t, s[:at])
		}
	}
}

// P4.1: what is answered is new memory, spare room too.
func TestSplitIsNew(t *testing.T) {
	for _, s := range []string{"*3\r\n$1\r\na\r\n$1\r\nb\r\n$1\r\nc\r\n", "a b c\n"} {
		want := []string{"a", "b", "c"}
		first, _, _ := parse.Split(s)
		second, _, _ := parse.Split(s)
		for at := range first[:cap(first)] {
			first[:cap(first)][at] = "stained"
		}
		if !slices.Equal(second, want) {
			t.Errorf("stained: %q", second)
		}
		check(t, s, want, "", api.OK)
	}
}

// P4.1: long texts take no time to speak of.
func TestSplitSoon(t *testing.T) {
	begin := time.Now()
	rest := long(1 << 26)
	for range 1000 {
		check(t, "*1\r\n$1\r\na\r\n"+rest[:100], []string{"a"}, rest[:100], api.OK)
		if _, _, e := parse.Split(rest); e != api.ErrProto {
			t.Fatalf("it is %d", e)
		}
		if _, _, e := parse.Split("*" + rest[:1<<16]); e != api.ErrProto {
			t.Fatalf("it is %d", e)
		}
	}
	if d := time.Since(begin); d > 10*time.Second {
		t.Errorf("it took %v", d)
	}
}

// P4.1: the bytes of a request of arguments, the first of the two kinds.
func TestMake(t *testing.T) {
	for _, c := range []struct {
		l    []string
		want string
	}{
		{[]string{"GET", "k"}, "*2\r\n$3\r\nGET\r\n$1\r\nk\r\n"},
		{[]string{"PING"}, "*1\r\n$4\r\nPING\r\n"},
		{[]string{""}, "*1\r\n$0\r\n\r\n"},
		{[]string{"", "", ""}, "*3\r\n$0\r\n\r\n$0\r\n\r\n$0\r\n\r\n"},
		{[]string{end, "a b", "\xff\x00", "*1\r\n"}, "*4\r\n$2\r\n\r\n\r\n$3\r\na b\r\n$2\r\n\xff\x00\r\n$4\r\n*1\r\n\r\n"},
		{[]string{"é世"}, "*1\r\n$5\r\né世\r\n"},
		{[]string{"0123456789"}, "*1\r\n$10\r\n0123456789\r\n"},
		{[]string{long(511)}, "*1\r\n$511\r\n" + long(511) + end},
		{[]string{long(512)}, "*1\r\n$512\r\n" + long(512) + end},
		{[]string{"a", long(512), ""}, "*3\r\n$1\r\na\r\n$512\r\n" + long(512) + "\r\n$0\r\n\r\n"},
		{slices.Repeat([]string{"ab"}, 63), "*63\r\n" + strings.Repeat("$2\r\nab\r\n", 63)},
		{slices.Repeat([]string{"ab"}, 64), "*64\r\n" + strings.Repeat("$2\r\nab\r\n", 64)},
		{slices.Repeat([]string{long(512)}, 64), "*64\r\n" + strings.Repeat("$512\r\n"+long(512)+end, 64)},
	} {
		if s, e := parse.Make(c.l); s != c.want || e != api.OK {
			t.Errorf("Make(%s) is %s, %d", brief(c.l), brief(s), e)
		}
		if modelBytes(c.l) != c.want {
			t.Errorf("the model holds %s wrong", brief(c.l))
		}
	}
}

// P4.1: of no arguments, of more than 64, and of an argument of more than 512 bytes, no request is made.
func TestMakeWrong(t *testing.T) {
	lists := [][]string{nil, {}, make([]string, 0, 5), many(65), many(66), make([]string, 65), make([]string, 128), make([]string, 1<<20), {long(513)}, {long(514)}, {long(1 << 20)}, {strings.Repeat("é", 257)}, append(many(64), long(513)), slices.Repeat([]string{long(513)}, 64)}
	for at := range 64 {
		l := many(64)
		l[at] = long(513)
		lists = append(lists, l, l[:at+1])
	}
	for _, l := range lists {
		if s, e := parse.Make(l); s != "" || e != api.ErrProto {
			t.Errorf("Make of %d, %s, is %s, %d", len(l), brief(l), brief(s), e)
		}
	}
}

// P4.1: what is handed in stays as it is, spare room too.
func TestMakeLeavesAlone(t *testing.T) {
	l := make([]string, 4)
	copy(l, []string{"a", "b", "c", "d"})
	for range 2 {
		if s, e := parse.Make(l[:2]); s != "*2\r\n$1\r\na\r\n$1\r\nb\r\n" || e != api.OK {
			t.Errorf("it is %q, %d", s, e)
		}
		parse.Make(append(l[:2:3], long(513)))
	}
	if !slices.Equal(l[:2], []string{"a", "b"}) || l[3] != "d" {
		t.Errorf("left is %.20q", l)
	}
}

func checkFeed(t *testing.T, p *parse.Parser, s string, want api.Errno, left int) {
	t.Helper()
	if e := p.Feed(s); e != want || p.Left() != left {
		t.Errorf("Feed(%s of %d) is %d, and left are %d, not %d, %d", brief(s), len(s), e, p.Left(), want, left)
	}
}

func checkNext(t *testing.T, p *parse.Parser, want []string, wantErr api.Errno, left int) {
	t.Helper()
	if l, e := p.Next(); !slices.Equal(l, want) || e != wantErr || p.Left() != left {
		t.Errorf("Next is %s, %d, and left are %d, not %s, %d, %d", brief(l), e, p.Left(), brief(want), wantErr, left)
	}
}

// P4.2: a nil parser.
func TestNil(t *testing.T) {
	var p *parse.Parser
	for _, s := range []string{"", "PING\n", "*x\r\n", long(16385)} {
		checkFeed(t, p, s, api.ErrNil, 0)
		checkNext(t, p, nil, api.ErrNil, 0)
	}
}

// P4.2: bytes stand behind what is left, and requests are taken off.
func TestParser(t *testing.T) {
	p := parse.New()
	checkNext(t, p, nil, api.ErrMore, 0)
	checkFeed(t, p, "", api.OK, 0)
	checkFeed(t, p, "*2\r\n$3\r\nGET\r\n$1\r\nk\r\nPI", api.OK, 22)
	checkNext(t, p, []string{"GET", "k"}, api.OK, 2)
	checkNext(t, p, nil, api.ErrMore, 2)
	checkFeed(t, p, "NG  x\r", api.OK, 8)
	checkNext(t, p, nil, api.ErrMore, 8)
	checkNext(t, p, nil, api.ErrMore, 8)
	checkFeed(t, p, "\n", api.OK, 9)
	checkFeed(t, p, "", api.OK, 9)
	checkFeed(t, p, "\n*0\r\n*-5\r\n\r\na\n", api.OK, 23)
	checkNext(t, p, []string{"PING", "x"}, api.OK, 14)
	checkNext(t, p, nil, api.OK, 13)
	checkNext(t, p, nil, api.OK, 9)
	checkNext(t, p, nil, api.OK, 4)
	checkNext(t, p, nil, api.OK, 2)
	checkFeed(t, p, "*1\r\n$2\r\n", api.OK, 10)
	checkNext(t, p, []string{"a"}, api.OK, 8)
	checkFeed(t, p, "\r\n\r", api.OK, 11)
	checkNext(t, p, nil, api.ErrMore, 11)
	checkFeed(t, p, "\n", api.OK, 12)
	checkNext(t, p, []string{end}, api.OK, 0)
	checkNext(t, p, nil, api.ErrMore, 0)
}

// P4.2: behind an error of the bytes nothing is fed any more, and no request comes, whatever is left.
func TestParserWrong(t *testing.T) {
	for _, wrong := range []string{"*x\r\n", "*65\r\n", "*1\r\nx", "*1\r\n$513\r\n", "*1\r\n$-1\r\n", "*1\r\n$1\r\nabc", "*" + strings.Repeat("1", 32), "*1\r\n$" + strings.Repeat("1", 32), long(1025), long(1025) + "\n", strings.Repeat("x ", 65) + "\n"} {
		p := parse.New()
		size := len(wrong)
		checkFeed(t, p, "PING\n"+wrong, api.OK, 5+size)
		checkNext(t, p, []string{"PING"}, api.OK, size)
		checkFeed(t, p, "\nPING\n", api.OK, size+6)
		for range 3 {
			checkNext(t, p, nil, api.ErrProto, size+6)
			for _, s := range []string{"", "PING\n", end, long(16385)} {
				checkFeed(t, p, s, api.ErrProto, size+6)
			}
		}
		other := parse.New()
		checkFeed(t, other, "PING\n", api.OK, 5)
		checkNext(t, other, []string{"PING"}, api.OK, 0)
	}
}

// P4.2: wrong bytes are fed on, till Next has told them.
func TestFeedAheadOfNext(t *testing.T) {
	p := parse.New()
	checkFeed(t, p, "*x\r\n", api.OK, 4)
	checkFeed(t, p, "PING\n", api.OK, 9)
	if _, _, e := parse.Split("*x\r\n"); e != api.ErrProto {
		t.Errorf("it is %d", e)
	}
	checkFeed(t, p, "", api.OK, 9)
	checkNext(t, p, nil, api.ErrProto, 9)
	checkFeed(t, p, "", api.ErrProto, 9)
}

// P4.2: 16384 bytes may be left; bytes with which there were more are refused, all of them.
func TestFeedFull(t *testing.T) {
	full := strings.Repeat("abc\n", 4096)
	p := parse.New()
	for _, s := range []string{full + "x", full + full, long(1 << 20)} {
		checkFeed(t, p, s, api.ErrBuffer, 0)
		checkNext(t, p, nil, api.ErrMore, 0)
	}
	checkFeed(t, p, full, api.OK, 16384)
	checkFeed(t, p, "", api.OK, 16384)
	checkFeed(t, p, "x", api.ErrBuffer, 16384)
	checkNext(t, p, []string{"abc"}, api.OK, 16380)
	checkFeed(t, p, "12345", api.ErrBuffer, 16380)
	checkFeed(t, p, "123", api.OK, 16383)
	checkFeed(t, p, "45", api.ErrBuffer, 16383)
	checkFeed(t, p, "\n", api.OK, 16384)
	checkFeed(t, p, "\n", api.ErrBuffer, 16384)
	for at := range 4095 {
		checkNext(t, p, []string{"abc"}, api.OK, 16380-4*at)
	}
	checkNext(t, p, []string{"123"}, api.OK, 0)
	checkFeed(t, p, full, api.OK, 16384)

	wrong := parse.New()
	checkFeed(t, wrong, long(16384), api.OK, 16384)
	checkFeed(t, wrong, "x", api.ErrBuffer, 16384)
	checkNext(t, wrong, nil, api.ErrProto, 16384)
	checkFeed(t, wrong, "x", api.ErrProto, 16384)
}

// P4.2: what Next answers is new memory, and no later call touches it.
func TestNextIsNew(t *testing.T) {
	p := parse.New()
	p.Feed("a b c\n*2\r\n$1\r\nd\r\n$1\r\ne\r\nf g\n")
	first, _ := p.Next()
	for at := range first[:cap(first)] {
		first[:cap(first)][at] = "stained"
	}
	second, _ := p.Next()
	p.Feed("h\n")
	third, _ := p.Next()
	if !slices.Equal(second, []string{"d", "e"}) || !slices.Equal(third, []string{"f", "g"}) || first[0] != "stained" {
		t.Errorf("%q, %q, %q", first, second, third)
	}
	checkNext(t, p, []string{"h"}, api.OK, 0)
}

// outcome is what comes out of bytes: the requests, the error behind them, how many bytes were taken off.
type outcome struct {
	list  [][]string
	e     api.Errno
	taken int
}

func (o outcome) same(other outcome) bool {
	return slices.EqualFunc(o.list, other.list, slices.Equal) && o.e == other.e && o.taken == other.taken
}

// modelOutcome is that of the whole bytes, by the document's words.
func modelOutcome(s string) outcome {
	var o outcome
	for {
		l, rest, e := modelSplit(s)
		if o.e = e; e != api.OK {
			return o
		}
		o.list, o.taken, s = append(o.list, l), o.taken+len(s)-len(rest), rest
	}
}

// fed is that of a parser that is fed piece by piece; behind each piece as many requests are asked for as there are, or, if it is late, only in the end.
func fed(t *testing.T, pieces []string, late bool) outcome {
	t.Helper()
	var o outcome
	p := parse.New()
	given := 0
	for at, s := range pieces {
		want := api.OK
		if o.e == api.ErrProto {
			want = api.ErrProto
		}
		if e := p.Feed(s); e != want {
			t.Fatalf("Feed(%s) is %d", brief(s), e)
		}
		if want == api.OK {
			given += len(s)
		}
		for !late || at == len(pieces)-1 {
			var l []string
			if l, o.e = p.Next(); o.e != api.OK {
				break
			}
			o.list = append(o.list, l)
		}
		o.taken = given - p.Left()
	}
	return o
}

// cut are pieces of a text, of at most so many bytes.
func cut(r *rand.Rand, s string, most int) []string {
	pieces := []string{""}
	for s != "" {
		n := min(len(s), 1+r.IntN(most))
		pieces, s = append(pieces, s[:n]), s[n:]
	}
	return pieces
}

func checkCuts(t *testing.T, r *rand.Rand, s string) {
	t.Helper()
	want := modelOutcome(s)
	for _, pieces := range [][]string{{s}, cut(r, s, 1), cut(r, s, 2), cut(r, s, 7), cut(r, s, 40), cut(r, s, 2000)} {
		for _, late := range []bool{false, true} {
			if o := fed(t, pieces, late); !o.same(want) {
				t.Errorf("of %s of %d, in %d pieces: %s, %d, %d, not %s, %d, %d", brief(s), len(s), len(pieces), brief(o.list), o.e, o.taken, brief(want.list), want.e, want.taken)
			}
		}
	}
}

// some are the bytes of a request that is right mostly.
func some(r *rand.Rand) string {
	words := []string{"", "a", "PING", end, "\r", "\n", "a b", "*1\r\n", "$1\r\nx\r\n", "\xff\x00", long(40), long(512)}
	faults := []string{"*x\r\n", "*65\r\n", "*1\r\nx", "*1\r\n$513\r\n", "*1\r\n$-1\r\n", "*1\r\n$1\r\nabc", "*1\r\n$01\r\n", "*" + long(32), "*1\r\n$" + long(32), long(1025), strings.Repeat("x ", 65) + "\n", "*1\r\n$3\r\nabcde\r\n"}
	lines := []string{"\n", end, "PING\n", "get k\r\n", "\t a  b\t\n", "\r\r\n", long(1024) + "\n", long(1023) + end, "*0\r\n", "*-9\r\n", strings.Join(many(64), " ") + "\n"}
	switch kind := r.IntN(30); {
	case kind == 0:
		return faults[r.IntN(len(faults))]
	case kind < 12:
		return lines[r.IntN(len(lines))]
	}
	var l []string
	for range 1 + r.IntN(6) {
		l = append(l, words[r.IntN(len(words))])
	}
	return modelBytes(l)
}

// P4.3: in whatever pieces bytes come, the same requests come out, and the same error.
func TestPieces(t *testing.T) {
	r := rand.New(rand.NewPCG(13, 14))
	told := map[api.Errno]int{}
	for range 600 {
		var b strings.Builder
		for range r.IntN(8) {
			b.WriteString(some(r))
		}
		s := b.String()
		if r.IntN(3) == 0 {
			s = s[:r.IntN(len(s)+1)]
		}
		if len(s) > 16384 {
			continue
		}
		checkCuts(t, r, s)
		told[modelOutcome(s).e]++
	}
	if told[api.ErrMore] < 50 || told[api.ErrProto] < 50 {
		t.Errorf("told was %v", told)
	}
	for _, s := range []string{long(1024), long(1025), long(1024) + "\n", long(1025) + "\n", "*" + strings.Repeat("1", 31), "*" + strings.Repeat("1", 32), "*" + strings.Repeat("1", 31) + end, "*" + strings.Repeat("1", 30) + end, "*1\r\n$" + strings.Repeat("1", 31) + end, strings.Repeat("x ", 65) + "\n"} {
		checkCuts(t, r, s)
		checkCuts(t, r, "PING\n"+s)
	}
}

// P4.3: each two pieces of some bytes.
func TestTwoPieces(t *testing.T) {
	for _, s := range []string{"*2\r\n$3\r\nGET\r\n$1\r\nk\r\nGET  k\r\n*0\r\n*1\r\n$2\r\n\r\n\r\n\n*1\r\nx", "\r\r\n*1\r\n$0\r\n\r\na\r b\r\n*01\r\n"} {
		want := modelOutcome(s)
		for at := range len(s) + 1 {
			for _, late := range []bool{false, true} {
				if o := fed(t, []string{s[:at], s[at:]}, late); !o.same(want) {
					t.Errorf("of %q and %q: %q, %d, %d", s[:at], s[at:], o.list, o.e, o.taken)
				}
			}
		}
	}
}

// P4.3: what is made is split again, and each beginning of it asks for more.
func TestThereAndBack(t *testing.T) {
	r := rand.New(rand.NewPCG(15, 16))
	lists := [][]string{{""}, {end}, {long(512)}, many(64), slices.Repeat([]string{""}, 64), slices.Repeat([]string{long(512)}, 64)}
	for range 300 {
		var l []string
		for range 1 + r.IntN(64) {
			b := make([]byte, r.IntN(1+r.IntN(513)))
			for at := range b {
				b[at] = byte(r.IntN(256))
			}
			l = append(l, string(b))
		}
		lists = append(lists, l)
	}
	for _, l := range lists {
		s, e := parse.Make(l)
		if e != api.OK || s != modelBytes(l) {
			t.Fatalf("Make(%s) is %s, %d", brief(l), brief(s), e)
		}
		for _, rest := range rests() {
			check(t, s+rest, l, rest, api.OK)
		}
		for at := 0; at < len(s); at += 1 + r.IntN(1+len(s)/100) {
			checkFault(t, s[:at], api.ErrMore)
		}
		checkFault(t, s[:len(s)-1], api.ErrMore)
	}
}
