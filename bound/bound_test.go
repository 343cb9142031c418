package bound_test

import (
	"fmt"
	"math"
	"math/big"
	"math/rand/v2"
	"regexp"
	"slices"
	"strings"
	"testing"

	"palio/api"
	"palio/bound"
)

const (
	least = math.MinInt64
	most  = math.MaxInt64
)

// scores are numbers at which signs, lengths and ends change, and those next to them, in their order.
func scores() []int64 {
	l := []int64{least, least + 1, least + 2, most - 2, most - 1, most}
	for _, n := range []int64{0, 5, 10, 100, 1 << 31, 1 << 32, 1 << 53, 1e18} {
		l = append(l, n-1, n, n+1, -n-1, -n, -n+1)
	}
	slices.Sort(l)
	return slices.Compact(l)
}

// members are texts in the order of their bytes, as they are written here.
func members() []string {
	return []string{
		"", "\x00", "\x00\x00", "\x00a", "\x01", "\n", "\r\n", " ", " a", "((", "(a", "+", "+inf", "-", "-inf", "0", "007", "10", "5", "A", "B", "[", "[[", "[a", "]",
		"a", "a\x00", "a\x00\x00", "a\x01", "a ", "aA", "aa", "aaa", "ab", "a\xff", "b", "inf", "z", "\x7f", "\x80", "\x80\x80", "\xc0\xaf", "é", "é\x00", "éa", "ê", "世", "世界", "\xed\xa0\x80", "\ufffd", "😀", "\xfe", "\xff", "\xff\x00", "\xff\xfe", "\xff\xff", "\xff\xff\xff",
	}
}

// entries are in their order: by their scores, of one score by their members.
func entries() []api.Entry {
	var l []api.Entry
	for _, n := range []int64{least, least + 1, -256, -10, -9, -1, 0, 1, 9, 10, 255, 256, most - 1, most} {
		for _, s := range members() {
			l = append(l, api.Entry{Member: s, Score: n})
		}
	}
	return l
}

func infs() []int {
	return []int{-1, 1, -2, 2, -3, 7, -255, 256, math.MinInt32, math.MaxInt32, 1 << 32, -1 << 32, 1<<32 + 1, 1<<32 - 1, -1<<32 - 1, math.MinInt, math.MinInt + 1, math.MaxInt - 1, math.MaxInt}
}

func checkParse(t *testing.T, s string, want api.Bound, wantErr api.Errno) {
	t.Helper()
	if b, e := bound.Parse(s); b != want || e != wantErr {
		t.Errorf("Parse(%.60q) is %+v, %d, not %+v, %d", s, b, e, want, wantErr)
	}
}

func checkFormat(t *testing.T, b api.Bound, want string, wantErr api.Errno) {
	t.Helper()
	if s, e := bound.Format(b); s != want || e != wantErr {
		t.Errorf("Format(%+v) is %q, %d, not %q, %d", b, s, e, want, wantErr)
	}
}

func checkParseEdge(t *testing.T, s string, want api.Edge, wantErr api.Errno) {
	t.Helper()
	if x, e := bound.ParseEdge(s); x != want || e != wantErr {
		t.Errorf("ParseEdge(%.60q) is %.99v, %d, not %.99v, %d", s, x, e, want, wantErr)
	}
}

func checkFormatEdge(t *testing.T, x api.Edge, want string, wantErr api.Errno) {
	t.Helper()
	if s, e := bound.FormatEdge(x); s != want || e != wantErr {
		t.Errorf("FormatEdge(%.99v) is %.60q, %d, not %.60q, %d", x, s, e, want, wantErr)
	}
}

func checkIn(t *testing.T, n int64, from api.Bound, to api.Bound, want bool) {
	t.Helper()
	if in := bound.In(n, from, to); in != want {
		t.Errorf("In(%d, %+v, %+v) is %t", n, from, to, in)
	}
}

func checkInEdge(t *testing.T, s string, from api.Edge, to api.Edge, want bool) {
	t.Helper()
	if in := bound.InEdge(s, from, to); in != want {
		t.Errorf("InEdge(%q, %#v, %#v) is %t", s, from, to, in)
	}
}

// modelParse goes by the document's words, in numbers without ends.
func modelParse(s string) (api.Bound, api.Errno) {
	switch s {
	case "-inf":
		return api.Bound{Inf: -1}, api.OK
	case "+inf", "inf":
		return api.Bound{Inf: 1}, api.OK
	}
	parts := shape.FindStringSubmatch(s)
	if parts == nil {
		return api.Bound{}, api.ErrBound
	}
	n, ok := new(big.Int).SetString(parts[2], 10)
	if !ok || !n.IsInt64() {
		return api.Bound{}, api.ErrBound
	}
	return api.Bound{N: n.Int64(), Out: parts[1] == "("}, api.OK
}

var shape = regexp.MustCompile(`^(\(?)(0|-?[1-9][0-9]*)$`)

// modelParseEdge goes by the document's words, byte by byte.
func modelParseEdge(s string) (api.Edge, api.Errno) {
	switch {
	case s == "-":
		return api.Edge{Inf: -1}, api.OK
	case s == "+":
		return api.Edge{Inf: 1}, api.OK
	case len(s) > 0 && s[0] == '[':
		return api.Edge{S: s[1:]}, api.OK
	case len(s) > 0 && s[0] == '(':
		return api.Edge{S: s[1:], Out: true}, api.OK
	}
	return api.Edge{}, api.ErrBound
}

// P9.1: ends of scores.
func TestParse(t *testing.T) {
	for s, want := range map[string]api.Bound{
		"-inf": {Inf: -1}, "+inf": {Inf: 1}, "inf": {Inf: 1},
		"0": {}, "5": {N: 5}, "-5": {N: -5}, "10": {N: 10}, "1234567890": {N: 1234567890},
		"9223372036854775807": {N: most}, "-9223372036854775808": {N: least}, "9223372036854775806": {N: most - 1}, "-9223372036854775807": {N: least + 1},
		"(0": {Out: true}, "(5": {N: 5, Out: true}, "(-5": {N: -5, Out: true}, "(10": {N: 10, Out: true},
		"(9223372036854775807": {N: most, Out: true}, "(-9223372036854775808": {N: least, Out: true},
	} {
		checkParse(t, s, want, api.OK)
	}
}

// P9.1: texts that are no end of scores.
func TestParseWrong(t *testing.T) {
	for _, s := range []string{
		"", "(", "((", "((5", "(((5", "()", "(5)", "5)", "5(", "(5(", ")5", "( 5", " (5", "(5 ", "[", "[5", "[-5", "[inf", "([5", "[(5", "[[5",
		"(inf", "(-inf", "(+inf", "((inf", "-", "+", "--", "++", "-+", "(-", "(+", "+5", "(+5", "--5", "-+5", "5-", "5+",
		"007", "-007", "(007", "00", "-0", "(-0", "+0", "(00", "-00", "01", "-01", "(01", "(-01",
		" 5", "5 ", " ", "\t5", "5\n", "5\r\n", "\r\n", "- 5", "1 0", "5\x00", "\x005", "\x00", "(\x00", "\x00(5",
		"INF", "-INF", "+INF", "Inf", "-Inf", "iNF", "infinity", "-infinity", "+infinity", "--inf", "++inf", "-+inf", "- inf", " inf", "inf ", "-inf ", " -inf", "inf5", "5inf", "in", "-in", "+in", "i", "nf", "inff", "-inf\x00", "inf\n", "nan", "NaN", "∞", "-∞",
		"9223372036854775808", "-9223372036854775809", "(9223372036854775808", "(-9223372036854775809", "10000000000000000000", "-10000000000000000000", "18446744073709551616", "18446744073709551621", "99999999999999999999", "100000000000000000000", "340282366920938463463374607431768211461",
		"a", "5a", "a5", "(a", "0x5", "1e3", "1.0", "5.", ".5", "1_000", "1,000",
		"\xff", "(\xff", "\xff5", "5\xff", "(5\xff", "(\xff5", "\x80", "\xc0\xa85", "\ufffd", "\ufffd5", "\uff15", "(\u0665", "\uff085", "\u22125", "\u207d5",
		"-inf+inf", "-inf,inf", "5 6", "5,6", strings.Repeat("9", 1<<16), "(" + strings.Repeat("0", 1<<16), strings.Repeat("(", 1<<16), strings.Repeat("-", 1<<16), strings.Repeat("inf", 1<<15), strings.Repeat("0", 20) + "5",
	} {
		checkParse(t, s, api.Bound{}, api.ErrBound)
	}
}

// P9.1: all short texts of what ends of scores are written with, and of some that they are not.
func TestParseShort(t *testing.T) {
	letters := []string{"-", "+", "(", "[", "0", "5", "i", "n", "f", "I", " ", "\xff"}
	texts := []string{""}
	for range 4 {
		var longer []string
		for _, s := range texts {
			for _, l := range letters {
				want, wantErr := modelParse(s + l)
				checkParse(t, s+l, want, wantErr)
				longer = append(longer, s+l)
			}
		}
		texts = longer
	}
}

// P9.1: a right text of which one byte is another one, is there too much, or is not there.
func TestParseChanged(t *testing.T) {
	check := func(s string) {
		t.Helper()
		want, wantErr := modelParse(s)
		checkParse(t, s, want, wantErr)
	}
	for _, s := range []string{"-inf", "+inf", "inf", "0", "(0", "-7", "(105", "(-105", "9223372036854775807", "(-9223372036854775808"} {
		for at := range len(s) + 1 {
			for b := range 256 {
				check(s[:at] + string([]byte{byte(b)}) + s[at:])
				if at < len(s) {
					check(s[:at] + string([]byte{byte(b)}) + s[at+1:])
				}
			}
			if at < len(s) {
				check(s[:at] + s[at+1:])
			}
			check(s[at:])
		}
	}
}

// P9.1: each number near where the numbers end.
func TestParseEnds(t *testing.T) {
	for _, power := range []uint{63, 64} {
		end := new(big.Int).Lsh(big.NewInt(1), power)
		for d := int64(-20); d <= 20; d++ {
			digits := new(big.Int).Add(end, big.NewInt(d)).String()
			for _, s := range []string{digits, "-" + digits, "(" + digits, "(-" + digits, digits + "0", "(0" + digits} {
				want, wantErr := modelParse(s)
				checkParse(t, s, want, wantErr)
			}
		}
	}
}

// P9.1: how ends of scores are written.
func TestFormat(t *testing.T) {
	for want, b := range map[string]api.Bound{
		"-inf": {Inf: -1}, "+inf": {Inf: 1}, "0": {}, "5": {N: 5}, "-5": {N: -5}, "100": {N: 100},
		"9223372036854775807": {N: most}, "-9223372036854775808": {N: least},
		"(0": {Out: true}, "(5": {N: 5, Out: true}, "(-5": {N: -5, Out: true},
		"(9223372036854775807": {N: most, Out: true}, "(-9223372036854775808": {N: least, Out: true},
	} {
		checkFormat(t, b, want, api.OK)
	}
	for _, n := range scores() {
		checkFormat(t, api.Bound{N: n}, fmt.Sprint(n), api.OK)
		checkFormat(t, api.Bound{N: n, Out: true}, "("+fmt.Sprint(n), api.OK)
	}
}

// P9.1: ends of scores that can't be written.
func TestFormatWrong(t *testing.T) {
	for _, inf := range infs() {
		if inf != -1 && inf != 1 {
			checkFormat(t, api.Bound{Inf: inf}, "", api.ErrBound)
		}
		for _, out := range []bool{false, true} {
			for _, n := range scores() {
				if n != 0 || out {
					checkFormat(t, api.Bound{N: n, Out: out, Inf: inf}, "", api.ErrBound)
				}
			}
		}
	}
	checkFormat(t, api.Bound{Inf: -1, Out: true}, "", api.ErrBound)
	checkFormat(t, api.Bound{Inf: 1, Out: true}, "", api.ErrBound)
	checkFormat(t, api.Bound{Inf: -1, N: 1}, "", api.ErrBound)
	checkFormat(t, api.Bound{Inf: 1, N: -1}, "", api.ErrBound)
}

// P9.1: ends of members.
func TestParseEdge(t *testing.T) {
	for s, want := range map[string]api.Edge{
		"-": {Inf: -1}, "+": {Inf: 1}, "[": {}, "(": {Out: true}, "[a": {S: "a"}, "(a": {S: "a", Out: true}, "[ab c": {S: "ab c"}, "(ab c": {S: "ab c", Out: true},
		"[[": {S: "["}, "[(": {S: "("}, "([": {S: "[", Out: true}, "((": {S: "(", Out: true}, "[-": {S: "-"}, "[+": {S: "+"}, "(-": {S: "-", Out: true}, "(+": {S: "+", Out: true},
		"[[a": {S: "[a"}, "[(a": {S: "(a"}, "((a": {S: "(a", Out: true}, "([a": {S: "[a", Out: true}, "[-inf": {S: "-inf"}, "(+inf": {S: "+inf", Out: true}, "[5": {S: "5"}, "(007": {S: "007", Out: true},
		"[\xff": {S: "\xff"}, "(\xff\xfe": {S: "\xff\xfe", Out: true}, "[\x00": {S: "\x00"}, "(\x00": {S: "\x00", Out: true}, "[\r\n": {S: "\r\n"}, "( ": {S: " ", Out: true}, "[ a": {S: " a"}, "[a ": {S: "a "},
		"[é": {S: "é"}, "(世界": {S: "世界", Out: true}, "[\xa9": {S: "\xa9"}, "(\ufffd": {S: "\ufffd", Out: true}, "[]": {S: "]"}, "()": {S: ")", Out: true},
	} {
		checkParseEdge(t, s, want, api.OK)
	}
	for _, s := range append(members(), strings.Repeat("x", 64), strings.Repeat("x", 65), strings.Repeat("(", 1<<16), strings.Repeat("\xff", 1<<16)) {
		checkParseEdge(t, "["+s, api.Edge{S: s}, api.OK)
		checkParseEdge(t, "("+s, api.Edge{S: s, Out: true}, api.OK)
	}
	for a := range 256 {
		s := string([]byte{byte(a)})
		checkParseEdge(t, "["+s, api.Edge{S: s}, api.OK)
		checkParseEdge(t, "("+s+"b", api.Edge{S: s + "b", Out: true}, api.OK)
		checkParseEdge(t, "[b"+s, api.Edge{S: "b" + s}, api.OK)
	}
}

// P9.1: texts that are no end of members.
func TestParseEdgeWrong(t *testing.T) {
	for _, s := range []string{
		"", "a", "ab", "5", "0", "-a", "+a", "-5", "--", "++", "-+", "+-", "- ", "+ ", " -", " +", "-\x00", "+\x00", "\x00", "\x00-", "\x00[a", "-[a", "+(a", "-(", "+[",
		"inf", "-inf", "+inf", "a[", "a(", " [a", " (a", "\n[a", "]", ")", "]a", ")a", "{a", "<a", "\xff", "\xff[a", "\xff-", "-\xff", "+\xff", "é", "\ufffd[a", "\uff3ba", "\uff08a", "\u2212", "\uff0b", "\x80(", "\xdba", "\xc1\x9ba", strings.Repeat("a", 1<<16), strings.Repeat("-", 1<<16),
	} {
		checkParseEdge(t, s, api.Edge{}, api.ErrBound)
	}
}

// P9.1: all short texts, by the first bytes of all kinds.
func TestParseEdgeShort(t *testing.T) {
	for a := range 256 {
		one := string([]byte{byte(a)})
		want, wantErr := modelParseEdge(one)
		checkParseEdge(t, one, want, wantErr)
		for b := range 256 {
			two := string([]byte{byte(a), byte(b)})
			want, wantErr := modelParseEdge(two)
			checkParseEdge(t, two, want, wantErr)
			want, wantErr = modelParseEdge(two + "x")
			checkParseEdge(t, two+"x", want, wantErr)
		}
	}
}

// P9.1: how ends of members are written.
func TestFormatEdge(t *testing.T) {
	for want, x := range map[string]api.Edge{
		"-": {Inf: -1}, "+": {Inf: 1}, "[": {}, "(": {Out: true}, "[a": {S: "a"}, "(a": {S: "a", Out: true}, "[-": {S: "-"}, "(+": {S: "+", Out: true}, "[[": {S: "["}, "((": {S: "(", Out: true}, "[\xff": {S: "\xff"},
	} {
		checkFormatEdge(t, x, want, api.OK)
	}
	for _, s := range append(members(), strings.Repeat("x", 65), strings.Repeat("\xff", 1<<16)) {
		checkFormatEdge(t, api.Edge{S: s}, "["+s, api.OK)
		checkFormatEdge(t, api.Edge{S: s, Out: true}, "("+s, api.OK)
	}
}

// P9.1: ends of members that can't be written.
func TestFormatEdgeWrong(t *testing.T) {
	for _, inf := range infs() {
		if inf != -1 && inf != 1 {
			checkFormatEdge(t, api.Edge{Inf: inf}, "", api.ErrBound)
		}
		for _, out := range []bool{false, true} {
			for _, s := range members() {
				if s != "" || out {
					checkFormatEdge(t, api.Edge{S: s, Out: out, Inf: inf}, "", api.ErrBound)
				}
			}
		}
	}
	checkFormatEdge(t, api.Edge{Inf: -1, Out: true}, "", api.ErrBound)
	checkFormatEdge(t, api.Edge{Inf: 1, Out: true}, "", api.ErrBound)
	checkFormatEdge(t, api.Edge{Inf: -1, S: "a"}, "", api.ErrBound)
	checkFormatEdge(t, api.Edge{Inf: 1, S: "\x00"}, "", api.ErrBound)
}

// P9.3: what an end of scores is written as is read as that end, and what is read is written as it was, but for `inf`.
func TestBoundsOneToOne(t *testing.T) {
	ends := []api.Bound{{Inf: -1}, {Inf: 1}}
	for _, n := range scores() {
		ends = append(ends, api.Bound{N: n}, api.Bound{N: n, Out: true})
	}
	random := rand.New(rand.NewPCG(9, 1))
	for range 5000 {
		ends = append(ends, api.Bound{N: int64(random.Uint64()) >> random.IntN(64), Out: random.IntN(2) == 0})
	}
	seen := map[string]api.Bound{}
	for _, b := range ends {
		s, e := bound.Format(b)
		if e != api.OK {
			t.Fatalf("Format(%+v) tells %d", b, e)
		}
		checkParse(t, s, b, api.OK)
		if other, ok := seen[s]; ok && other != b {
			t.Errorf("%+v and %+v are both %q", b, other, s)
		}
		seen[s] = b
	}
	for _, s := range []string{"-inf", "+inf", "0", "5", "-5", "(5", "(-5", "(0", "9223372036854775807", "(9223372036854775807", "-9223372036854775808", "(-9223372036854775808"} {
		b, e := bound.Parse(s)
		if e != api.OK {
			t.Errorf("Parse(%q) tells %d", s, e)
		}
		checkFormat(t, b, s, api.OK)
	}
	b, e := bound.Parse("inf")
	if e != api.OK {
		t.Errorf("Parse of inf tells %d", e)
	}
	checkFormat(t, b, "+inf", api.OK)
}

// P9.3: likewise ends of members.
func TestEdgesOneToOne(t *testing.T) {
	ends := []api.Edge{{Inf: -1}, {Inf: 1}}
	for _, s := range members() {
		ends = append(ends, api.Edge{S: s}, api.Edge{S: s, Out: true})
	}
	random := rand.New(rand.NewPCG(9, 2))
	for range 5000 {
		bytes := make([]byte, random.IntN(70))
		for i := range bytes {
			bytes[i] = byte(random.Uint32() >> random.IntN(3))
		}
		ends = append(ends, api.Edge{S: string(bytes), Out: random.IntN(2) == 0})
	}
	seen := map[string]api.Edge{}
	for _, x := range ends {
		s, e := bound.FormatEdge(x)
		if e != api.OK {
			t.Fatalf("FormatEdge(%#v) tells %d", x, e)
		}
		checkParseEdge(t, s, x, api.OK)
		if other, ok := seen[s]; ok && other != x {
			t.Errorf("%#v and %#v are both %q", x, other, s)
		}
		seen[s] = x
	}
	for a := range 256 {
		for _, s := range []string{"-", "+", "[" + string([]byte{byte(a)}), "(" + string([]byte{byte(a)}), "[(" + string([]byte{byte(a)}), "(x" + string([]byte{byte(a)})} {
			x, e := bound.ParseEdge(s)
			if e != api.OK {
				t.Errorf("ParseEdge(%q) tells %d", s, e)
			}
			checkFormatEdge(t, x, s, api.OK)
		}
	}
}

// P9.2: a number at, just below and just above each end.
func TestIn(t *testing.T) {
	for _, c := range []struct {
		from, to api.Bound
		in, not  []int64
	}{
		{api.Bound{N: 5}, api.Bound{N: 9}, []int64{5, 6, 8, 9}, []int64{least, -5, 0, 4, 10, most}},
		{api.Bound{N: 5, Out: true}, api.Bound{N: 9}, []int64{6, 8, 9}, []int64{least, 4, 5, 10, most}},
		{api.Bound{N: 5}, api.Bound{N: 9, Out: true}, []int64{5, 6, 8}, []int64{least, 4, 9, 10, most}},
		{api.Bound{N: 5, Out: true}, api.Bound{N: 9, Out: true}, []int64{6, 7, 8}, []int64{4, 5, 9, 10}},
		{api.Bound{N: -9}, api.Bound{N: -5}, []int64{-9, -8, -6, -5}, []int64{-10, -4, 0, 5, 9}},
		{api.Bound{N: -1, Out: true}, api.Bound{N: 1, Out: true}, []int64{0}, []int64{-2, -1, 1, 2}},
		{api.Bound{N: 5, Out: true}, api.Bound{N: 6, Out: true}, nil, []int64{4, 5, 6, 7}},
		{api.Bound{N: 5}, api.Bound{N: 5}, []int64{5}, []int64{4, 6}},
		{api.Bound{N: 5, Out: true}, api.Bound{N: 5}, nil, []int64{4, 5, 6}},
		{api.Bound{N: 5}, api.Bound{N: 5, Out: true}, nil, []int64{4, 5, 6}},
		{api.Bound{N: 5, Out: true}, api.Bound{N: 5, Out: true}, nil, []int64{4, 5, 6}},
		{api.Bound{N: 9}, api.Bound{N: 5}, nil, []int64{4, 5, 7, 9, 10}},
		{api.Bound{N: 9, Out: true}, api.Bound{N: 5, Out: true}, nil, []int64{4, 5, 7, 9, 10}},
		{api.Bound{Inf: -1}, api.Bound{Inf: 1}, []int64{least, least + 1, -1, 0, 1, most - 1, most}, nil},
		{api.Bound{Inf: 1}, api.Bound{Inf: -1}, nil, []int64{least, 0, most}},
		{api.Bound{Inf: -1}, api.Bound{Inf: -1}, nil, []int64{least, 0, most}},
		{api.Bound{Inf: 1}, api.Bound{Inf: 1}, nil, []int64{least, 0, most}},
		{api.Bound{Inf: -1}, api.Bound{N: 5}, []int64{least, 0, 4, 5}, []int64{6, most}},
		{api.Bound{Inf: -1}, api.Bound{N: 5, Out: true}, []int64{least, 0, 4}, []int64{5, 6, most}},
		{api.Bound{N: 5}, api.Bound{Inf: 1}, []int64{5, 6, most}, []int64{least, 0, 4}},
		{api.Bound{N: 5, Out: true}, api.Bound{Inf: 1}, []int64{6, most}, []int64{least, 0, 4, 5}},
		{api.Bound{Inf: 1}, api.Bound{N: 5}, nil, []int64{least, 4, 5, 6, most}},
		{api.Bound{N: 5}, api.Bound{Inf: -1}, nil, []int64{least, 4, 5, 6, most}},
		{api.Bound{N: least}, api.Bound{N: most}, []int64{least, 0, most}, nil},
		{api.Bound{N: least, Out: true}, api.Bound{N: most, Out: true}, []int64{least + 1, 0, most - 1}, []int64{least, most}},
		{api.Bound{N: most}, api.Bound{N: least}, nil, []int64{least, 0, most}},
		{api.Bound{N: most, Out: true}, api.Bound{Inf: 1}, nil, []int64{least, 0, most - 1, most}},
		{api.Bound{Inf: -1}, api.Bound{N: least, Out: true}, nil, []int64{least, least + 1, 0, most}},
		{api.Bound{}, api.Bound{}, []int64{0}, []int64{-1, 1}},
	} {
		for _, n := range c.in {
			checkIn(t, n, c.from, c.to, true)
		}
		for _, n := range c.not {
			checkIn(t, n, c.from, c.to, false)
		}
	}
}

// P9.2: of an end beyond all the sign alone counts, in whatever other fields there are.
func TestInBeyond(t *testing.T) {
	numbers := []int64{least, -5, 0, 4, 5, 6, most}
	for _, inf := range infs() {
		for _, at := range numbers {
			for _, out := range []bool{false, true} {
				end := api.Bound{N: at, Out: out, Inf: inf}
				for _, n := range numbers {
					checkIn(t, n, end, api.Bound{Inf: 1}, inf < 0)
					checkIn(t, n, api.Bound{Inf: -1}, end, inf > 0)
					checkIn(t, n, end, api.Bound{N: 5}, inf < 0 && n <= 5)
					checkIn(t, n, end, api.Bound{N: 5, Out: true}, inf < 0 && n < 5)
					checkIn(t, n, api.Bound{N: 5}, end, inf > 0 && n >= 5)
					checkIn(t, n, api.Bound{N: 5, Out: true}, end, inf > 0 && n > 5)
					checkIn(t, n, end, end, false)
				}
			}
		}
	}
}

// modelIn reckons the first and the last number of a range, without ends.
func modelIn(n int64, from api.Bound, to api.Bound) bool {
	reckon := func(b api.Bound, out int64) *big.Int {
		switch {
		case b.Inf < 0:
			return new(big.Int).Lsh(big.NewInt(-1), 70)
		case b.Inf > 0:
			return new(big.Int).Lsh(big.NewInt(1), 70)
		case b.Out:
			return new(big.Int).Add(big.NewInt(b.N), big.NewInt(out))
		}
		return big.NewInt(b.N)
	}
	return reckon(from, 1).Cmp(big.NewInt(n)) <= 0 && big.NewInt(n).Cmp(reckon(to, -1)) <= 0
}

// P9.2: numbers in ranges with all kinds of ends.
func TestInModel(t *testing.T) {
	numbers := []int64{least, least + 1, -6, -5, -1, 0, 1, 4, 5, 6, 9, 10, most - 1, most}
	ends := []api.Bound{{Inf: -1}, {Inf: 1}, {N: 5, Out: true, Inf: -2}, {N: -5, Out: true, Inf: 3}}
	for _, n := range numbers {
		ends = append(ends, api.Bound{N: n}, api.Bound{N: n, Out: true})
	}
	for _, from := range ends {
		for _, to := range ends {
			for _, n := range numbers {
				checkIn(t, n, from, to, modelIn(n, from, to))
			}
		}
	}
	random := rand.New(rand.NewPCG(9, 3))
	draw := func() int64 { return int64(random.Uint64()) >> random.IntN(64) }
	for range 20000 {
		from, to := api.Bound{N: draw(), Out: random.IntN(2) == 0}, api.Bound{N: draw(), Out: random.IntN(2) == 0}
		for _, n := range []int64{draw(), from.N, to.N} {
			checkIn(t, n, from, to, modelIn(n, from, to))
		}
	}
}

// P9.2: a member at, just below and just above each end.
func TestInEdge(t *testing.T) {
	for _, c := range []struct {
		from, to api.Edge
		in, not  []string
	}{
		{api.Edge{S: "b"}, api.Edge{S: "d"}, []string{"b", "b\x00", "bb", "c", "czz", "c\xff", "d"}, []string{"", "a", "a\xff", "B", "D", "d\x00", "dd", "e", "\xff"}},
		{api.Edge{S: "b", Out: true}, api.Edge{S: "d"}, []string{"b\x00", "c", "d"}, []string{"", "a\xff", "b", "d\x00", "e"}},
		{api.Edge{S: "b"}, api.Edge{S: "d", Out: true}, []string{"b", "c", "c\xff\xff"}, []string{"", "a\xff", "d", "d\x00"}},
		{api.Edge{S: "b", Out: true}, api.Edge{S: "d", Out: true}, []string{"b\x00", "c"}, []string{"b", "d"}},
		{api.Edge{S: "a"}, api.Edge{S: "ab"}, []string{"a", "a\x00", "aa", "ab"}, []string{"", "A", "ab\x00", "abc", "ac", "b"}},
		{api.Edge{S: "a", Out: true}, api.Edge{S: "ab", Out: true}, []string{"a\x00", "aa", "aa\xff"}, []string{"a", "ab", "b"}},
		{api.Edge{S: "ab"}, api.Edge{S: "a"}, nil, []string{"", "a", "aa", "ab", "b"}},
		{api.Edge{S: "a"}, api.Edge{S: "a"}, []string{"a"}, []string{"", "a\x00", "A", "b"}},
		{api.Edge{S: "a", Out: true}, api.Edge{S: "a"}, nil, []string{"", "a", "a\x00"}},
		{api.Edge{S: "a"}, api.Edge{S: "a", Out: true}, nil, []string{"", "a", "a\x00"}},
		{api.Edge{S: "a", Out: true}, api.Edge{S: "a", Out: true}, nil, []string{"", "a", "a\x00"}},
		{api.Edge{S: "\x7f"}, api.Edge{S: "\x80"}, []string{"\x7f", "\x7fa", "\x80"}, []string{"", "~", "\x80\x00", "\xff", "é"}},
		{api.Edge{S: "é"}, api.Edge{S: "\xff"}, []string{"é", "ê", "世", "\xc3\xaa", "\xff"}, []string{"e", "\xc3", "\xc3\xa8", "\x80", "\xff\x00"}},
		{api.Edge{S: "\xed\xa0\x80"}, api.Edge{S: "\ufffd"}, []string{"\xed\xa0\x80", "\xee", "\ufffd"}, []string{"\xed", "世", "\ufffd\x00", "\xff"}},
		{api.Edge{S: "Z"}, api.Edge{S: "a"}, []string{"Z", "[", "_", "a"}, []string{"A", "b", "z"}},
		{api.Edge{S: "10"}, api.Edge{S: "9"}, []string{"10", "100", "2", "9"}, []string{"1", "90"}},
		{api.Edge{}, api.Edge{S: "a"}, []string{"", "\x00", "A", "a"}, []string{"a\x00", "b", "\xff"}},
		{api.Edge{Out: true}, api.Edge{S: "a"}, []string{"\x00", "A", "a"}, []string{"", "b"}},
		{api.Edge{}, api.Edge{}, []string{""}, []string{"\x00", "a", "\xff"}},
		{api.Edge{Inf: -1}, api.Edge{Out: true}, nil, []string{"", "\x00", "a"}},
		{api.Edge{Inf: -1}, api.Edge{}, []string{""}, []string{"\x00", "a"}},
		{api.Edge{Inf: -1}, api.Edge{Inf: 1}, []string{"", "\x00", "a", "\xff\xff\xff", strings.Repeat("\xff", 1000)}, nil},
		{api.Edge{Inf: 1}, api.Edge{Inf: -1}, nil, []string{"", "a", "\xff"}},
		{api.Edge{Inf: -1}, api.Edge{Inf: -1}, nil, []string{"", "a", "\xff"}},
		{api.Edge{Inf: 1}, api.Edge{Inf: 1}, nil, []string{"", "a", "\xff"}},
		{api.Edge{Inf: -1}, api.Edge{S: "b", Out: true}, []string{"", "a", "a\xff"}, []string{"b", "c"}},
		{api.Edge{S: "b", Out: true}, api.Edge{Inf: 1}, []string{"b\x00", "c", "\xff"}, []string{"", "a", "b"}},
		{api.Edge{S: "b"}, api.Edge{Inf: 1}, []string{"b", "c", "\xff"}, []string{"", "a"}},
		{api.Edge{S: "b"}, api.Edge{Inf: -1}, nil, []string{"", "b", "c"}},
		{api.Edge{Inf: 1}, api.Edge{S: "b"}, nil, []string{"", "a", "b"}},
		{api.Edge{S: "-"}, api.Edge{S: "+"}, nil, []string{"+", ",", "-"}},
		{api.Edge{S: "+"}, api.Edge{S: "-"}, []string{"+", ",", "-"}, []string{"", "a"}},
	} {
		for _, s := range c.in {
			checkInEdge(t, s, c.from, c.to, true)
		}
		for _, s := range c.not {
			checkInEdge(t, s, c.from, c.to, false)
		}
	}
}

// P9.2: of an end beyond all the sign alone counts, in whatever other fields there are.
func TestInEdgeBeyond(t *testing.T) {
	texts := []string{"", "\x00", "a", "b", "b\x00", "c", "\xff"}
	for _, inf := range infs() {
		for _, at := range texts {
			for _, out := range []bool{false, true} {
				end := api.Edge{S: at, Out: out, Inf: inf}
				for _, s := range texts {
					checkInEdge(t, s, end, api.Edge{Inf: 1}, inf < 0)
					checkInEdge(t, s, api.Edge{Inf: -1}, end, inf > 0)
					checkInEdge(t, s, end, api.Edge{S: "b"}, inf < 0 && s <= "b")
					checkInEdge(t, s, end, api.Edge{S: "b", Out: true}, inf < 0 && s < "b")
					checkInEdge(t, s, api.Edge{S: "b"}, end, inf > 0 && s >= "b")
					checkInEdge(t, s, api.Edge{S: "b", Out: true}, end, inf > 0 && s > "b")
					checkInEdge(t, s, end, end, false)
				}
			}
		}
	}
}

// P9.2: members in ranges with all kinds of ends, by the places of the members in their order.
func TestInEdgeModel(t *testing.T) {
	l := members()
	for from := -1; from <= len(l); from++ {
		for to := -1; to <= len(l); to++ {
			for kinds := range 4 {
				a, b := edgeAt(l, from, kinds&1 > 0), edgeAt(l, to, kinds&2 > 0)
				for at, s := range l {
					want := from <= at && at <= to && !(a.Out && at == from) && !(b.Out && at == to)
					checkInEdge(t, s, a, b, want)
				}
			}
		}
	}
}

// edgeAt is the end at a place, beyond all at one ahead of the first place and behind the last one.
func edgeAt(l []string, at int, out bool) api.Edge {
	switch {
	case at < 0:
		return api.Edge{Inf: -1}
	case at == len(l):
		return api.Edge{Inf: 1}
	}
	return api.Edge{S: l[at], Out: out}
}

// P9.2: one entry ahead of another one, written out.
func TestLess(t *testing.T) {
	for _, c := range []struct{ a, b api.Entry }{
		{api.Entry{Member: "b", Score: 1}, api.Entry{Member: "a", Score: 2}},
		{api.Entry{Member: "a", Score: 9}, api.Entry{Member: "a", Score: 10}},
		{api.Entry{Member: "\xff", Score: -1}, api.Entry{Score: 0}},
		{api.Entry{Member: "z", Score: least}, api.Entry{Member: "a", Score: most}},
		{api.Entry{Member: "z", Score: least}, api.Entry{Member: "a", Score: least + 1}},
		{api.Entry{Member: "z", Score: -10}, api.Entry{Member: "a", Score: -9}},
		{api.Entry{Member: "a", Score: 5}, api.Entry{Member: "b", Score: 5}},
		{api.Entry{Score: 5}, api.Entry{Member: "\x00", Score: 5}},
		{api.Entry{Member: "a", Score: 5}, api.Entry{Member: "ab", Score: 5}},
		{api.Entry{Member: "ab", Score: 5}, api.Entry{Member: "b", Score: 5}},
		{api.Entry{Member: "B", Score: 5}, api.Entry{Member: "a", Score: 5}},
		{api.Entry{Member: "10", Score: 5}, api.Entry{Member: "9", Score: 5}},
		{api.Entry{Member: "z", Score: 5}, api.Entry{Member: "\x80", Score: 5}},
		{api.Entry{Member: "\x7f", Score: 5}, api.Entry{Member: "é", Score: 5}},
		{api.Entry{Member: "\ufffd", Score: 5}, api.Entry{Member: "\xff", Score: 5}},
	} {
		if !bound.Less(c.a, c.b) {
			t.Errorf("%#v does not stand ahead of %#v", c.a, c.b)
		}
		if bound.Less(c.b, c.a) {
			t.Errorf("%#v stands ahead of %#v", c.b, c.a)
		}
		if bound.Less(c.a, c.a) || bound.Less(c.b, c.b) {
			t.Errorf("%#v or %#v stands ahead of itself", c.a, c.b)
		}
	}
}

// P9.2: entries stand as they are written in their order.
func TestLessOrder(t *testing.T) {
	l := entries()
	for i, a := range l {
		for j, b := range l {
			if less := bound.Less(a, b); less != (i < j) {
				t.Fatalf("Less(%#v, %#v) is %t", a, b, less)
			}
		}
	}
}

// boundsInOrder are ends, each further above than the one ahead of it: as first ends, one that leaves a number out is above it, as last ends below it.
func boundsInOrder(last bool) []api.Bound {
	l := []api.Bound{{Inf: -1}}
	for _, n := range []int64{least, least + 1, -5, -1, 0, 1, 5, 6, most - 1, most} {
		l = append(l, api.Bound{N: n, Out: last}, api.Bound{N: n, Out: !last})
	}
	return append(l, api.Bound{Inf: 1})
}

// P9.3: what is in a range of scores is in each one that is wider.
func TestWider(t *testing.T) {
	firsts, lasts := boundsInOrder(false), boundsInOrder(true)
	in := 0
	for i, from := range firsts {
		for j, to := range lasts {
			for _, n := range scores() {
				if !bound.In(n, from, to) {
					continue
				}
				in++
				for _, lower := range firsts[:i+1] {
					for _, upper := range lasts[j:] {
						checkIn(t, n, lower, upper, true)
					}
				}
			}
		}
	}
	if in < 1000 {
		t.Errorf("%d numbers are in ranges", in)
	}
}

// edgesInOrder are ends likewise.
func edgesInOrder(last bool) []api.Edge {
	l := []api.Edge{{Inf: -1}}
	for _, s := range []string{"", "\x00", "A", "a", "a\x00", "ab", "b", "\x7f", "\x80", "é", "\xff", "\xff\xff"} {
		l = append(l, api.Edge{S: s, Out: last}, api.Edge{S: s, Out: !last})
	}
	return append(l, api.Edge{Inf: 1})
}

// P9.3: what is in a range of members is in each one that is wider.
func TestWiderEdges(t *testing.T) {
	firsts, lasts := edgesInOrder(false), edgesInOrder(true)
	in := 0
	for i, from := range firsts {
		for j, to := range lasts {
			for _, s := range members() {
				if !bound.InEdge(s, from, to) {
					continue
				}
				in++
				for _, lower := range firsts[:i+1] {
					for _, upper := range lasts[j:] {
						checkInEdge(t, s, lower, upper, true)
					}
				}
			}
		}
	}
	if in < 1000 {
		t.Errorf("%d members are in ranges", in)
	}
}

// The chapter's examples.
func TestExamples(t *testing.T) {
	checkParse(t, "(5", api.Bound{N: 5, Out: true}, api.OK)
	checkParseEdge(t, "[a", api.Edge{S: "a"}, api.OK)
	checkIn(t, 5, api.Bound{N: 5, Out: true}, api.Bound{Inf: 1}, false)
	checkInEdge(t, "ab", api.Edge{S: "a"}, api.Edge{S: "b", Out: true}, true)
}
