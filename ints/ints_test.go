package ints_test

import (
	"math"
	"math/big"
	"math/rand/v2"
	"regexp"
	"strings"
	"testing"

	"palio/api"
	"palio/ints"
)

// edges are numbers at which signs, halves and ends change, and those next to them.
func edges() []int64 {
	var l []int64
	for _, n := range []int64{0, 10, 99, 1 << 31, 1 << 32, 3037000500, 1e9, 1e18, 1 << 53, 1 << 62, math.MaxInt64 / 3, math.MaxInt64 / 10} {
		for d := int64(-2); d <= 2; d++ {
			l = append(l, n+d, -n+d)
		}
	}
	for d := int64(0); d < 12; d++ {
		l = append(l, math.MaxInt64-d, math.MinInt64+d)
	}
	return l
}

// some are numbers of all lengths, the same ones each time.
func some(count int) []int64 {
	r := rand.New(rand.NewPCG(1, 2))
	l := make([]int64, count)
	for i := range l {
		l[i] = int64(r.Uint64()) >> r.IntN(64)
	}
	return l
}

var shape = regexp.MustCompile(`^(0|-?[1-9][0-9]*)$`)

// model reads digits by the document's words, in numbers without ends.
func model(s string) (int64, api.Errno) {
	if !shape.MatchString(s) {
		return 0, api.ErrInt
	}
	n, ok := new(big.Int).SetString(s, 10)
	if !ok || !n.IsInt64() {
		return 0, api.ErrInt
	}
	return n.Int64(), api.OK
}

func checkParse(t *testing.T, s string) {
	t.Helper()
	want, wantErr := model(s)
	if n, e := ints.Parse(s); n != want || e != wantErr {
		t.Errorf("Parse(%.40q) is %d, %d, not %d, %d", s, n, e, want, wantErr)
	}
}

// P1.1: the digits of ordinary numbers and of the ends.
func TestFormat(t *testing.T) {
	for n, want := range map[int64]string{
		0: "0", 1: "1", 7: "7", 9: "9", 10: "10", 42: "42", 100: "100", 1234567890: "1234567890",
		-1: "-1", -9: "-9", -10: "-10", -100: "-100",
		math.MaxInt64: "9223372036854775807", math.MaxInt64 - 1: "9223372036854775806",
		math.MinInt64: "-9223372036854775808", math.MinInt64 + 1: "-9223372036854775807",
	} {
		if s := ints.Format(n); s != want {
			t.Errorf("Format(%d) is %q, not %q", n, s, want)
		}
	}
	for _, n := range append(edges(), some(5000)...) {
		if s, want := ints.Format(n), big.NewInt(n).String(); s != want {
			t.Errorf("Format(%d) is %q", n, s)
		}
	}
}

// P1.1: texts that are a number's digits.
func TestParse(t *testing.T) {
	for s, want := range map[string]int64{
		"0": 0, "1": 1, "9": 9, "10": 10, "100": 100, "-1": -1, "-10": -10, "1234567890": 1234567890,
		"1000000000000000000": 1e18, "-1000000000000000000": -1e18,
		"9223372036854775807": math.MaxInt64, "9223372036854775806": math.MaxInt64 - 1,
		"-9223372036854775808": math.MinInt64, "-9223372036854775807": math.MinInt64 + 1,
	} {
		if n, e := ints.Parse(s); n != want || e != api.OK {
			t.Errorf("Parse(%q) is %d, %d", s, n, e)
		}
	}
}

// P1.1: texts that are no number's digits.
func TestParseWrong(t *testing.T) {
	for _, s := range []string{
		"", "-", "+", "--", "--5", "+5", "-+5", "+-5", "5-", "5+", "1-2", "\u22125",
		"-0", "+0", "00", "000", "-00", "01", "007", "-007", "-01", "00000000000000000001",
		" ", " 5", "5 ", "5\n", "\t5", "\r\n5", "- 5", "1 000", "5\x00", "\x005", "\u00a05",
		"a", "5a", "a5", "0x5", "0b1", "1e3", "1.0", "1.", ".5", "1_000", "1,000", "inf", "nan",
		"\xff", "5\xff", "\xff5", "-\xff", "\x80", "\xc0\xb5", "\ufffd", "\uff15", "\u0665", "1\u0665", "\u00b2", "\u00e9",
		"9223372036854775808", "9223372036854775809", "-9223372036854775809", "9223372036854775817", "-9223372036854775818",
		"18446744073709551615", "18446744073709551616", "18446744073709551617", "-18446744073709551617", "10000000000000000000", "-10000000000000000000",
		"99999999999999999999", "100000000000000000000", "340282366920938463463374607431768211457",
		strings.Repeat("9", 1<<16), strings.Repeat("0", 1<<16), "-" + strings.Repeat("1", 1<<16), "1" + strings.Repeat("0", 64), strings.Repeat("0", 64) + "1", strings.Repeat("-", 1<<16),
	} {
		if n, e := ints.Parse(s); n != 0 || e != api.ErrInt {
			t.Errorf("Parse(%.40q) is %d, %d", s, n, e)
		}
	}
}

// P1.1: all short texts of signs, digits, blanks, letters and wrong bytes.
func TestParseShort(t *testing.T) {
	letters := []string{"-", "+", "0", "1", "9", " ", "a", "\xff", "5"}
	texts := []string{""}
	for range 4 {
		var longer []string
		for _, s := range texts {
			for _, l := range letters {
				checkParse(t, s+l)
				longer = append(longer, s+l)
			}
		}
		texts = longer
	}
}

// P1.1: each number within 1000 of where the numbers, or the bits of a word, end, and what begins like one.
func TestParseEnds(t *testing.T) {
	for _, power := range []uint{63, 64, 65, 128} {
		end := new(big.Int).Lsh(big.NewInt(1), power)
		for d := int64(-1000); d <= 1000; d++ {
			s := new(big.Int).Add(end, big.NewInt(d)).String()
			for _, text := range []string{s, "-" + s, "+" + s, "0" + s, "-0" + s, s + "0", s + " ", " " + s} {
				checkParse(t, text)
			}
		}
	}
}

// P1.1: one byte of right digits is another one.
func TestParseChanged(t *testing.T) {
	for _, n := range []int64{0, -7, 105, math.MaxInt64, math.MinInt64} {
		s := ints.Format(n)
		for at := range len(s) {
			for b := range 256 {
				checkParse(t, s[:at]+string([]byte{byte(b)})+s[at+1:])
				checkParse(t, s[:at]+string([]byte{byte(b)})+s[at:])
			}
			checkParse(t, s[:at]+s[at+1:])
		}
	}
}

type checked struct {
	name string
	do   func(a, b int64) (int64, api.Errno)
	big  func(a, b *big.Int) *big.Int
}

func calls() []checked {
	return []checked{
		{"Add", ints.Add, func(a, b *big.Int) *big.Int { return new(big.Int).Add(a, b) }},
		{"Sub", ints.Sub, func(a, b *big.Int) *big.Int { return new(big.Int).Sub(a, b) }},
		{"Mul", ints.Mul, func(a, b *big.Int) *big.Int { return new(big.Int).Mul(a, b) }},
	}
}

// P1.2: sums, differences and products of edges, and of others, are those of numbers without ends, or overflows.
func TestChecked(t *testing.T) {
	numbers := append(edges(), some(150)...)
	for _, c := range calls() {
		for _, a := range numbers {
			for _, b := range numbers {
				want, wantErr := int64(0), api.ErrOverflow
				if r := c.big(big.NewInt(a), big.NewInt(b)); r.IsInt64() {
					want, wantErr = r.Int64(), api.OK
				}
				if n, e := c.do(a, b); n != want || e != wantErr {
					t.Fatalf("%s(%d, %d) is %d, %d, not %d, %d", c.name, a, b, n, e, want, wantErr)
				}
			}
		}
	}
}

// P1.2: the last result and the first overflow, at both ends.
func TestCheckedEnds(t *testing.T) {
	const least, most = math.MinInt64, math.MaxInt64
	add, sub, mul := ints.Add, ints.Sub, ints.Mul
	for _, c := range []struct {
		name    string
		do      func(a, b int64) (int64, api.Errno)
		a, b, n int64
		e       api.Errno
	}{
		{"Add", add, 2, 3, 5, 0}, {"Add", add, most - 1, 1, most, 0}, {"Add", add, most, 1, 0, api.ErrOverflow}, {"Add", add, most, most, 0, api.ErrOverflow},
		{"Add", add, least + 1, -1, least, 0}, {"Add", add, least, -1, 0, api.ErrOverflow}, {"Add", add, least, least, 0, api.ErrOverflow}, {"Add", add, least, most, -1, 0},
		{"Sub", sub, 2, 3, -1, 0}, {"Sub", sub, -1, least, most, 0}, {"Sub", sub, 0, least, 0, api.ErrOverflow}, {"Sub", sub, least, least, 0, 0},
		{"Sub", sub, least, 0, least, 0}, {"Sub", sub, least, 1, 0, api.ErrOverflow}, {"Sub", sub, -2, most, 0, api.ErrOverflow}, {"Sub", sub, most, -1, 0, api.ErrOverflow},
		{"Mul", mul, -2, 3, -6, 0}, {"Mul", mul, 1 << 62, 2, 0, api.ErrOverflow}, {"Mul", mul, -1 << 62, 2, least, 0}, {"Mul", mul, least, 1, least, 0},
		{"Mul", mul, least, -1, 0, api.ErrOverflow}, {"Mul", mul, -1, least, 0, api.ErrOverflow}, {"Mul", mul, most, -1, -most, 0}, {"Mul", mul, 1 << 32, 1 << 32, 0, api.ErrOverflow},
		{"Mul", mul, least, least, 0, api.ErrOverflow}, {"Mul", mul, most, most, 0, api.ErrOverflow}, {"Mul", mul, 0, least, 0, 0}, {"Mul", mul, least, 0, 0, 0},
	} {
		if n, e := c.do(c.a, c.b); n != c.n || e != c.e {
			t.Errorf("%s(%d, %d) is %d, %d, not %d, %d", c.name, c.a, c.b, n, e, c.n, c.e)
		}
	}
}

// P1.2: places from the front and from the end, none below 0 and none past the end.
func TestClamp(t *testing.T) {
	const least, most = math.MinInt64, math.MaxInt64
	for _, c := range []struct{ at, n, want int64 }{
		{0, 5, 0}, {3, 5, 3}, {4, 5, 4}, {5, 5, 5}, {6, 5, 5}, {most, 5, 5},
		{-1, 5, 4}, {-4, 5, 1}, {-5, 5, 0}, {-6, 5, 0}, {least, 5, 0},
		{0, 1, 0}, {1, 1, 1}, {-1, 1, 0}, {-2, 1, 0},
		{0, 0, 0}, {1, 0, 0}, {-1, 0, 0}, {most, 0, 0}, {least, 0, 0},
		{0, -5, 0}, {3, -5, 0}, {-1, -5, 0}, {-3, -1, 0}, {most, -1, 0}, {least, -1, 0}, {most, least, 0}, {least, least, 0}, {-1, least, 0},
		{most, most, most}, {most - 1, most, most - 1}, {-1, most, most - 1}, {-most, most, 0}, {least, most, 0}, {0, most, 0},
	} {
		if k := ints.Clamp(c.at, c.n); k != c.want {
			t.Errorf("Clamp(%d, %d) is %d, not %d", c.at, c.n, k, c.want)
		}
	}
}

// P1.2: a place is found by counting: k things ahead of it, or, from the end on, -k behind it.
func TestClampCounted(t *testing.T) {
	for n := int64(0); n <= 8; n++ {
		for k := int64(0); k <= 10; k++ {
			if at := ints.Clamp(k, n); at != min(k, n) {
				t.Errorf("Clamp(%d, %d) is %d", k, n, at)
			}
			if k == 0 {
				continue
			}
			if at := ints.Clamp(-k, n); at != n-min(k, n) {
				t.Errorf("Clamp(%d, %d) is %d", -k, n, at)
			}
		}
	}
}

// P1.3: numbers and digits are one to one.
func TestOneToOne(t *testing.T) {
	whose := map[string]int64{}
	for _, n := range append(edges(), some(20000)...) {
		s := ints.Format(n)
		if m, e := ints.Parse(s); m != n || e != api.OK {
			t.Errorf("Parse(Format(%d)) is %d, %d", n, m, e)
		}
		if m, is := whose[s]; is && m != n {
			t.Errorf("%d and %d are both written %s", n, m, s)
		}
		whose[s] = n
	}
	for n := range 20000 {
		s := strings.Repeat("0", n%3) + ints.Format(int64(n-10000))
		if m, e := ints.Parse(s); e == api.OK && ints.Format(m) != s {
			t.Errorf("Format(Parse(%q)) is %q", s, ints.Format(m))
		}
	}
}

// P1.3: what is added and taken away again is what it was.
func TestThereAndBack(t *testing.T) {
	numbers := append(edges(), some(200)...)
	for _, a := range numbers {
		for _, b := range numbers {
			if n, e := ints.Add(a, b); e == api.OK {
				if m, e := ints.Sub(n, b); m != a || e != api.OK {
					t.Fatalf("%d and %d, and %d taken away, is %d, %d", a, b, b, m, e)
				}
			}
			if n, e := ints.Sub(a, b); e == api.OK {
				if m, e := ints.Add(n, b); m != a || e != api.OK {
					t.Fatalf("%d less %d, and %d added, is %d, %d", a, b, b, m, e)
				}
			}
		}
	}
}
