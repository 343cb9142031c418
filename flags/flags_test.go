package flags_test

import (
	"math"
	"math/big"
	"math/rand/v2"
	"slices"
	"strings"
	"testing"

	"palio/api"
	"palio/flags"
)

const (
	least = math.MinInt64
	most  = math.MaxInt64
)

// six are the words of all flags, in the order in which they are written.
func six() []string { return []string{"NX", "XX", "GT", "LT", "CH", "INCR"} }

// with sets the flag of one of the six words.
func with(f api.Add, word string) api.Add {
	switch word {
	case "NX":
		f.NX = true
	case "XX":
		f.XX = true
	case "GT":
		f.GT = true
	case "LT":
		f.LT = true
	case "CH":
		f.CH = true
	case "INCR":
		f.Incr = true
	}
	return f
}

func of(words ...string) api.Add {
	var f api.Add
	for _, word := range words {
		f = with(f, word)
	}
	return f
}

// every is all flags, 64 of them, each as the words that are of it, in their order.
func every() [][]string {
	l := [][]string{nil}
	for _, word := range six() {
		for _, words := range slices.Clone(l) {
			l = append(l, append(slices.Clone(words), word))
		}
	}
	return l
}

// modelRight goes by the document's pairs of what may not stand together.
func modelRight(f api.Add) bool {
	for _, wrong := range []bool{f.NX && f.XX, f.NX && f.GT, f.NX && f.LT, f.GT && f.LT} {
		if wrong {
			return false
		}
	}
	return true
}

// modelDecide goes by the document's words, one after another, in numbers without ends.
func modelDecide(f api.Add, is bool, old int64, n int64) (int64, int, api.Errno) {
	if !modelRight(f) {
		return 0, 0, 110
	}
	nothing := int64(0)
	if is {
		nothing = old
	}
	if is && f.NX {
		return nothing, 0, 0
	}
	if !is && f.XX {
		return nothing, 0, 0
	}
	if f.Incr {
		sum := new(big.Int).Add(big.NewInt(nothing), big.NewInt(n))
		if !sum.IsInt64() {
			return 0, 0, 11
		}
		n = sum.Int64()
	}
	if is && f.GT && !(n > old) {
		return nothing, 0, 0
	}
	if is && f.LT && !(n < old) {
		return nothing, 0, 0
	}
	switch {
	case !is:
		return n, 1, 0
	case n != old:
		return n, 2, 0
	}
	return n, 0, 0
}

// modelRead holds each word against the forms that words may have, written out letter by letter.
func modelRead(words []string) (api.Add, int, api.Errno) {
	var f api.Add
	count := 0
	for _, word := range words {
		at := slices.IndexFunc(six(), func(w string) bool { return slices.Contains(cases(w), word) })
		if at < 0 {
			break
		}
		f = with(f, six()[at])
		count++
	}
	if !modelRight(f) {
		return api.Add{}, 0, 110
	}
	return f, count, 0
}

// cases are a word in all cases of its letters.
func cases(word string) []string {
	l := []string{""}
	for _, letter := range strings.Split(word, "") {
		var longer []string
		for _, s := range l {
			longer = append(longer, s+letter, s+strings.ToLower(letter))
		}
		l = longer
	}
	return l
}

// scores are numbers at which signs and ends change, and those next to them.
func scores() []int64 {
	return []int64{least, least + 1, least + 2, -1 << 62, -1<<62 - 1, -1 << 32, -6, -5, -4, -2, -1, 0, 1, 2, 4, 5, 6, 1 << 32, 1<<62 - 1, 1 << 62, most - 2, most - 1, most}
}

func checkDecide(t *testing.T, f api.Add, is bool, old int64, n int64, want int64, wantDid int, wantErr api.Errno) {
	t.Helper()
	if score, did, e := flags.Decide(f, is, old, n); score != want || did != wantDid || e != wantErr {
		t.Errorf("Decide(%v, %t, %d, %d) is %d, %d, %d, not %d, %d, %d", flags.Write(f), is, old, n, score, did, e, want, wantDid, wantErr)
	}
}

func checkRead(t *testing.T, words []string, want api.Add, wantCount int, wantErr api.Errno) {
	t.Helper()
	if f, count, e := flags.Read(words); f != want || count != wantCount || e != wantErr {
		t.Errorf("Read(%.200q) is %+v, %d, %d, not %+v, %d, %d", words, f, count, e, want, wantCount, wantErr)
	}
}

func checkModel(t *testing.T, words []string) {
	t.Helper()
	want, wantCount, wantErr := modelRead(words)
	checkRead(t, words, want, wantCount, wantErr)
}

// P12.1: which flags are right, written out.
func TestRight(t *testing.T) {
	for _, words := range [][]string{
		{}, {"NX"}, {"XX"}, {"GT"}, {"LT"}, {"XX", "GT"}, {"XX", "LT"},
	} {
		for _, more := range [][]string{{}, {"CH"}, {"INCR"}, {"CH", "INCR"}} {
			if f := of(append(slices.Clone(words), more...)...); !flags.Right(f) {
				t.Errorf("%+v is not right", f)
			}
		}
	}
	for _, words := range [][]string{
		{"NX", "XX"}, {"NX", "GT"}, {"NX", "LT"}, {"GT", "LT"},
		{"NX", "XX", "GT"}, {"NX", "XX", "LT"}, {"NX", "GT", "LT"}, {"XX", "GT", "LT"}, {"NX", "XX", "GT", "LT"},
	} {
		for _, more := range [][]string{{}, {"CH"}, {"INCR"}, {"CH", "INCR"}} {
			if f := of(append(slices.Clone(words), more...)...); flags.Right(f) {
				t.Errorf("%+v is right", f)
			}
		}
	}
}

// P12.1: all flags by the pairs that may not stand together.
func TestRightAll(t *testing.T) {
	right := 0
	for _, words := range every() {
		f := of(words...)
		if flags.Right(f) != modelRight(f) {
			t.Errorf("Right of %q is %t", words, flags.Right(f))
		}
		if flags.Right(f) {
			right++
		}
	}
	if right != 28 {
		t.Errorf("%d flags are right, not 28", right)
	}
}

// P12.1: of a member that is there, with the score 7.
func TestDecideOld(t *testing.T) {
	for _, c := range []struct {
		words []string
		n     int64
		want  int64
		did   int
	}{
		{nil, 6, 6, api.DidMove}, {nil, 7, 7, api.DidNone}, {nil, 8, 8, api.DidMove}, {nil, 0, 0, api.DidMove}, {nil, -7, -7, api.DidMove},
		{[]string{"CH"}, 6, 6, api.DidMove}, {[]string{"CH"}, 7, 7, api.DidNone}, {[]string{"CH"}, 8, 8, api.DidMove},
		{[]string{"NX"}, 6, 7, api.DidNone}, {[]string{"NX"}, 7, 7, api.DidNone}, {[]string{"NX"}, 8, 7, api.DidNone},
		{[]string{"XX"}, 6, 6, api.DidMove}, {[]string{"XX"}, 7, 7, api.DidNone}, {[]string{"XX"}, 8, 8, api.DidMove},
		{[]string{"GT"}, 6, 7, api.DidNone}, {[]string{"GT"}, 7, 7, api.DidNone}, {[]string{"GT"}, 8, 8, api.DidMove},
		{[]string{"LT"}, 6, 6, api.DidMove}, {[]string{"LT"}, 7, 7, api.DidNone}, {[]string{"LT"}, 8, 7, api.DidNone},
		{[]string{"XX", "GT"}, 6, 7, api.DidNone}, {[]string{"XX", "GT"}, 7, 7, api.DidNone}, {[]string{"XX", "GT"}, 8, 8, api.DidMove},
		{[]string{"XX", "LT"}, 6, 6, api.DidMove}, {[]string{"XX", "LT"}, 7, 7, api.DidNone}, {[]string{"XX", "LT"}, 8, 7, api.DidNone},
		{[]string{"INCR"}, -3, 4, api.DidMove}, {[]string{"INCR"}, 0, 7, api.DidNone}, {[]string{"INCR"}, 3, 10, api.DidMove}, {[]string{"INCR"}, -7, 0, api.DidMove}, {[]string{"INCR"}, 7, 14, api.DidMove},
		{[]string{"NX", "INCR"}, -3, 7, api.DidNone}, {[]string{"NX", "INCR"}, 0, 7, api.DidNone}, {[]string{"NX", "INCR"}, 3, 7, api.DidNone},
		{[]string{"XX", "INCR"}, -3, 4, api.DidMove}, {[]string{"XX", "INCR"}, 0, 7, api.DidNone}, {[]string{"XX", "INCR"}, 3, 10, api.DidMove},
		{[]string{"GT", "INCR"}, -3, 7, api.DidNone}, {[]string{"GT", "INCR"}, 0, 7, api.DidNone}, {[]string{"GT", "INCR"}, 3, 10, api.DidMove}, {[]string{"GT", "INCR"}, 1, 8, api.DidMove},
		{[]string{"LT", "INCR"}, -3, 4, api.DidMove}, {[]string{"LT", "INCR"}, 0, 7, api.DidNone}, {[]string{"LT", "INCR"}, 3, 7, api.DidNone}, {[]string{"LT", "INCR"}, 9, 7, api.DidNone},
		{[]string{"XX", "GT", "INCR"}, 3, 10, api.DidMove}, {[]string{"XX", "GT", "INCR"}, -3, 7, api.DidNone}, {[]string{"XX", "LT", "INCR"}, -3, 4, api.DidMove}, {[]string{"XX", "LT", "INCR"}, 3, 7, api.DidNone},
		{[]string{"CH", "INCR"}, 3, 10, api.DidMove}, {[]string{"XX", "GT", "CH", "INCR"}, 3, 10, api.DidMove}, {[]string{"NX", "CH"}, 8, 7, api.DidNone}, {[]string{"GT", "CH"}, 8, 8, api.DidMove}, {[]string{"LT", "CH"}, 8, 7, api.DidNone},
	} {
		checkDecide(t, of(c.words...), true, 7, c.n, c.want, c.did, api.OK)
	}
}

// P12.1: of a member that is not there; what stands as its old score doesn't count.
func TestDecideNew(t *testing.T) {
	for _, old := range []int64{0, 7, 5, 3, -3, least, most} {
		for _, n := range []int64{0, 5, -5, 3, least, most} {
			for _, words := range [][]string{
				{}, {"NX"}, {"GT"}, {"LT"}, {"CH"}, {"INCR"}, {"NX", "CH"}, {"NX", "INCR"}, {"GT", "CH"}, {"GT", "INCR"}, {"LT", "CH"}, {"LT", "INCR"}, {"CH", "INCR"}, {"NX", "CH", "INCR"}, {"GT", "CH", "INCR"}, {"LT", "CH", "INCR"},
			} {
				checkDecide(t, of(words...), false, old, n, n, api.DidAdd, api.OK)
			}
			for _, words := range [][]string{
				{"XX"}, {"XX", "GT"}, {"XX", "LT"}, {"XX", "CH"}, {"XX", "INCR"}, {"XX", "GT", "CH"}, {"XX", "GT", "INCR"}, {"XX", "LT", "INCR"}, {"XX", "CH", "INCR"}, {"XX", "LT", "CH", "INCR"},
			} {
				checkDecide(t, of(words...), false, old, n, 0, api.DidNone, api.OK)
			}
		}
	}
}

// P12.1: sums up to where the numbers end, and past it, on both sides.
func TestDecideSum(t *testing.T) {
	incr := api.Add{Incr: true}
	for _, c := range []struct{ old, n, want int64 }{
		{most, least, -1}, {least, most, -1}, {most - 1, 1, most}, {1, most - 1, most}, {least + 1, -1, least}, {-1, least + 1, least}, {0, most, most}, {0, least, least},
		{most, -1, most - 1}, {least, 1, least + 1}, {1 << 62, 1<<62 - 1, most}, {-1 << 62, -1 << 62, least},
	} {
		checkDecide(t, incr, true, c.old, c.n, c.want, api.DidMove, api.OK)
	}
	checkDecide(t, incr, true, most, 0, most, api.DidNone, api.OK)
	checkDecide(t, incr, true, least, 0, least, api.DidNone, api.OK)
	for _, c := range []struct{ old, n int64 }{
		{most, 1}, {1, most}, {most, most}, {most - 1, 2}, {1 << 62, 1 << 62}, {least, -1}, {-1, least}, {least, least}, {least + 1, -2}, {-1 << 62, -1<<62 - 1},
	} {
		for _, words := range [][]string{
			{"INCR"}, {"XX", "INCR"}, {"GT", "INCR"}, {"LT", "INCR"}, {"CH", "INCR"}, {"XX", "GT", "INCR"}, {"XX", "LT", "INCR"}, {"XX", "GT", "CH", "INCR"},
		} {
			checkDecide(t, of(words...), true, c.old, c.n, 0, api.DidNone, api.ErrOverflow)
		}
		// Without Incr nothing is summed.
		checkDecide(t, api.Add{}, true, c.old, c.n, c.n, did(c.old, c.n), api.OK)
	}
}

func did(old int64, n int64) int {
	if old == n {
		return api.DidNone
	}
	return api.DidMove
}

// P12.1: flags that are not right are told first, then what is nothing by NX or XX, then a sum that is none, then GT and LT.
func TestDecideOrder(t *testing.T) {
	for _, n := range []int64{1, most, least} {
		for _, words := range [][]string{{"NX", "INCR"}, {"NX", "CH", "INCR"}} {
			checkDecide(t, of(words...), true, most, n, most, api.DidNone, api.OK)
			checkDecide(t, of(words...), true, least, n, least, api.DidNone, api.OK)
		}
		for _, words := range [][]string{{"XX", "INCR"}, {"XX", "GT", "INCR"}, {"XX", "LT", "CH", "INCR"}} {
			checkDecide(t, of(words...), false, most, n, 0, api.DidNone, api.OK)
			checkDecide(t, of(words...), false, least, n, 0, api.DidNone, api.OK)
		}
	}
	// A sum that is none is told, though its parts would say by GT or LT that there is nothing to do.
	checkDecide(t, api.Add{GT: true, Incr: true}, true, most, 1, 0, api.DidNone, api.ErrOverflow)
	checkDecide(t, api.Add{GT: true, Incr: true}, true, least, -1, 0, api.DidNone, api.ErrOverflow)
	checkDecide(t, api.Add{LT: true, Incr: true}, true, most, 1, 0, api.DidNone, api.ErrOverflow)
	checkDecide(t, api.Add{LT: true, Incr: true}, true, least, -1, 0, api.DidNone, api.ErrOverflow)
	// GT and LT look at the sum, not at what is added.
	checkDecide(t, api.Add{GT: true, Incr: true}, true, 100, 1, 101, api.DidMove, api.OK)
	checkDecide(t, api.Add{LT: true, Incr: true}, true, -100, -1, -101, api.DidMove, api.OK)
	checkDecide(t, api.Add{GT: true, Incr: true}, true, -100, -1, -100, api.DidNone, api.OK)
	checkDecide(t, api.Add{LT: true, Incr: true}, true, 100, 1, 100, api.DidNone, api.OK)
}

// P12.1: flags that are not right, whatever else there is.
func TestDecideWrong(t *testing.T) {
	for _, words := range [][]string{
		{"NX", "XX"}, {"NX", "GT"}, {"NX", "LT"}, {"GT", "LT"}, {"XX", "GT", "LT"}, {"NX", "XX", "GT", "LT"},
		{"NX", "XX", "INCR"}, {"NX", "GT", "INCR"}, {"NX", "LT", "INCR"}, {"GT", "LT", "INCR"}, {"NX", "XX", "CH"}, {"GT", "LT", "CH", "INCR"}, six(),
	} {
		for _, is := range []bool{false, true} {
			for _, old := range []int64{7, 0, least, most} {
				for _, n := range []int64{7, 8, 0, least, most} {
					checkDecide(t, of(words...), is, old, n, 0, api.DidNone, api.ErrFlags)
				}
			}
		}
	}
}

// P12.1: all flags, at scores of all kinds, by the document's words in order.
func TestDecideAll(t *testing.T) {
	r := rand.New(rand.NewPCG(12, 1))
	check := func(f api.Add, old int64, n int64) {
		for _, is := range []bool{false, true} {
			want, wantDid, wantErr := modelDecide(f, is, old, n)
			checkDecide(t, f, is, old, n, want, wantDid, wantErr)
		}
	}
	for _, words := range every() {
		for _, old := range scores() {
			for _, n := range scores() {
				check(of(words...), old, n)
			}
		}
		for range 200 {
			old, n := int64(r.Uint64())>>r.IntN(64), int64(r.Uint64())>>r.IntN(64)
			check(of(words...), old, n)
			check(of(words...), old, old+int64(r.IntN(3)-1))
		}
	}
}

// P12.1: the examples of the document.
func TestExamples(t *testing.T) {
	checkDecide(t, api.Add{GT: true}, true, 5, 3, 5, api.DidNone, api.OK)
	checkDecide(t, api.Add{XX: true}, false, 5, 3, 0, api.DidNone, api.OK)
	checkDecide(t, api.Add{Incr: true}, true, 2, 3, 5, api.DidMove, api.OK)
}

// P12.2: no words, each word alone in all cases of its letters, and words of more flags.
func TestRead(t *testing.T) {
	checkRead(t, nil, api.Add{}, 0, api.OK)
	checkRead(t, []string{}, api.Add{}, 0, api.OK)
	for _, word := range six() {
		for _, s := range cases(word) {
			checkRead(t, []string{s}, of(word), 1, api.OK)
			checkRead(t, []string{s, "5", "a"}, of(word), 1, api.OK)
		}
	}
	for _, c := range []struct {
		words []string
		want  api.Add
	}{
		{[]string{"XX", "GT"}, api.Add{XX: true, GT: true}},
		{[]string{"lt", "xx"}, api.Add{XX: true, LT: true}},
		{[]string{"incr", "Ch", "nX"}, api.Add{NX: true, CH: true, Incr: true}},
		{[]string{"iNcR", "GT", "cH", "Xx"}, api.Add{XX: true, GT: true, CH: true, Incr: true}},
		{[]string{"NX", "nx"}, api.Add{NX: true}},
		{[]string{"gt", "GT", "Gt", "gT"}, api.Add{GT: true}},
		{[]string{"INCR", "ch", "incr", "CH", "incr"}, api.Add{CH: true, Incr: true}},
	} {
		checkRead(t, c.words, c.want, len(c.words), api.OK)
	}
	many := make([]string, 1<<16)
	for n := range many {
		many[n] = []string{"xx", "LT", "Ch", "inCR"}[n%4]
	}
	checkRead(t, many, api.Add{XX: true, LT: true, CH: true, Incr: true}, 1<<16, api.OK)
}

// P12.2: what stands behind the first word that is none's is not read.
func TestReadBehind(t *testing.T) {
	checkRead(t, []string{"5", "NX"}, api.Add{}, 0, api.OK)
	checkRead(t, []string{"XX", "5", "NX"}, api.Add{XX: true}, 1, api.OK)
	checkRead(t, []string{"xx", "Ch", "INCR", "5", "NX"}, api.Add{XX: true, CH: true, Incr: true}, 3, api.OK)
	checkRead(t, []string{"GT", "", "LT"}, api.Add{GT: true}, 1, api.OK)
	checkRead(t, []string{"", "NX", "XX"}, api.Add{}, 0, api.OK)
	checkRead(t, []string{"NX", "NX", "a", "NX", "XX"}, api.Add{NX: true}, 2, api.OK)
}

// none are words that are none of the six.
func none() []string {
	l := []string{
		"", " ", "5", "-5", "a", "k", "member", "N", "X", "n", "G", "T", "L", "C", "H", "I", "IN", "INC", "inc", "NXX", "nxx", "XXX", "GTE", "GTT", "LTE", "CHH", "CHANGED", "INCRS", "INCRBY", "incrby", "NCR", "NXNX", "NX XX", "NX,XX", "NXXX",
		" NX", "NX ", "\tNX", "NX\n", "NX\r\n", "N X", "NX\x00", "\x00NX", "\x00", "\x00\x00", "-NX", "+NX", "[NX", "XN", "TG", "TL", "HC", "RCNI", "TT", "GG", "NN", "HH", "CC", "XT", "GX", "GL", "NT", "CX", "NH", "NOT", "ZADD",
		"\xff", "\xff\xff", "\xffX", "N\xff", "n\xff", "\xff\xff\xff\xff", "NX\xff", "\xffNX", "INC\xff", "\xce\xd8", "\xee\xf8", "\x0e\x18", "n\x18", "N\x38", ".X", "N8", "\ufffd", "\ufffdR", "I\ufffd", "\ufffdX",
		"ıncr", "ıNCR", "İNCR", "i̇ncr", "ıcr", "ıCR", "İCR", "ıc", "incṙ", "ＮＸ", "ｎｘ", "ＧＴ", "ＩＮＣＲ", "Ｘ", "NХ", "ХХ", "СН", "сн", "Ѕ", "Ν", "ΝΧ", "χ", "XХ", "GТ", "LТ", "CН", "ĉh", "ɢt", "ʟt", "ɴx", "ñx", "ǹx", "é", "世", "世界", "😀", "Ĝ", "Ĥ", "ß",
		"[X", "NX]", "@X", "N@", "N`", "`X", "{X", "N{", "^X", "_X", "N_", "INC2", "INC\x12", "inc\x12", "inc2", "gt\x00\x00", "in\x00\x00",
		strings.Repeat("N", 1<<16), strings.Repeat("NX", 1<<15), strings.Repeat("x", 1<<16), strings.Repeat("\xff", 1<<16), "INCR" + strings.Repeat("R", 1<<16), strings.Repeat(" ", 1<<16) + "NX",
	}
	return l
}

// P12.2: words that are none of the six, alone, first, and behind some that are.
func TestReadNone(t *testing.T) {
	for _, s := range none() {
		checkRead(t, []string{s}, api.Add{}, 0, api.OK)
		checkRead(t, []string{s, "NX"}, api.Add{}, 0, api.OK)
		checkRead(t, []string{"XX", s}, api.Add{XX: true}, 1, api.OK)
		checkRead(t, []string{"gt", "ch", s, "LT"}, api.Add{GT: true, CH: true}, 2, api.OK)
		checkRead(t, []string{"gt", "nx", s}, api.Add{}, 0, api.ErrFlags)
	}
}

// P12.2: a word of which one byte is another one, is there too much, or is not there.
func TestReadChanged(t *testing.T) {
	for _, word := range append(six(), "nx", "xx", "gt", "lt", "ch", "incr", "InCr") {
		for at := range len(word) + 1 {
			for b := range 256 {
				one := string([]byte{byte(b)})
				checkModel(t, []string{word[:at] + one + word[at:]})
				if at < len(word) {
					checkModel(t, []string{word[:at] + one + word[at+1:], "ch"})
				}
			}
			checkModel(t, []string{word[:at]})
			checkModel(t, []string{word[at:]})
			if at < len(word) {
				checkModel(t, []string{word[:at] + word[at+1:]})
			}
		}
	}
}

// P12.2: all words of two bytes.
func TestReadTwo(t *testing.T) {
	for a := range 256 {
		for b := range 256 {
			checkModel(t, []string{string([]byte{byte(a), byte(b)})})
		}
	}
}

// P12.2: a letter outside of ASCII is none of a word, wherever it stands.
func TestReadLetters(t *testing.T) {
	for r := rune(0x80); r < 0x30000; r++ {
		s := string(r)
		for _, word := range []string{s, s + "X", "N" + s, s + "c", s + "CR", "IN" + s, s + "R", "IN" + s + "R"} {
			if f, count, e := flags.Read([]string{word}); f != (api.Add{}) || count != 0 || e != api.OK {
				t.Fatalf("Read of %q is %+v, %d, %d", word, f, count, e)
			}
		}
	}
}

// P12.2: all lists of up to four of some words.
func TestReadLists(t *testing.T) {
	lists := [][]string{nil}
	for range 4 {
		var longer [][]string
		for _, l := range lists {
			for _, word := range []string{"NX", "xx", "Gt", "lT", "CH", "incr", "5", ""} {
				longer = append(longer, append(slices.Clone(l), word))
				checkModel(t, longer[len(longer)-1])
			}
		}
		lists = longer
	}
}

// P12.2: flags that are not right are told, in whatever order their words stand, and nothing beside.
func TestReadWrong(t *testing.T) {
	for _, words := range [][]string{
		{"xx", "nx"}, {"NX", "XX"}, {"nx", "GT"}, {"gt", "NX"}, {"NX", "lt"}, {"LT", "Nx"}, {"GT", "LT"}, {"lt", "gt"},
		{"NX", "CH", "XX"}, {"incr", "GT", "CH", "LT"}, {"XX", "GT", "LT"}, {"NX", "NX", "XX"}, {"NX", "XX", "5", "a"}, {"GT", "LT", "", "NX"}, six(), append(six(), "5", "a"),
	} {
		checkRead(t, words, api.Add{}, 0, api.ErrFlags)
	}
}

// P12.2: how flags are written, those that are not right too.
func TestWrite(t *testing.T) {
	for _, c := range []struct {
		f    api.Add
		want []string
	}{
		{api.Add{}, nil},
		{api.Add{NX: true}, []string{"NX"}},
		{api.Add{XX: true}, []string{"XX"}},
		{api.Add{GT: true}, []string{"GT"}},
		{api.Add{LT: true}, []string{"LT"}},
		{api.Add{CH: true}, []string{"CH"}},
		{api.Add{Incr: true}, []string{"INCR"}},
		{api.Add{Incr: true, NX: true, CH: true}, []string{"NX", "CH", "INCR"}},
		{api.Add{Incr: true, CH: true, GT: true, XX: true}, []string{"XX", "GT", "CH", "INCR"}},
		{api.Add{LT: true, XX: true}, []string{"XX", "LT"}},
		{api.Add{NX: true, XX: true}, []string{"NX", "XX"}},
		{api.Add{GT: true, LT: true}, []string{"GT", "LT"}},
		{api.Add{NX: true, XX: true, GT: true, LT: true, CH: true, Incr: true}, []string{"NX", "XX", "GT", "LT", "CH", "INCR"}},
	} {
		if l := flags.Write(c.f); !slices.Equal(l, c.want) {
			t.Errorf("Write(%+v) is %q, not %q", c.f, l, c.want)
		}
	}
	for _, words := range every() {
		if l := flags.Write(of(words...)); !slices.Equal(l, words) {
			t.Errorf("Write(%+v) is %q, not %q", of(words...), l, words)
		}
	}
}

// does is what a member is, once what was decided of it is done.
func does(is bool, old int64, score int64, did int) (bool, int64) {
	if did == api.DidNone {
		return is, old
	}
	return true, score
}

// P12.3: what is decided twice is decided once, without Incr.
func TestTwice(t *testing.T) {
	for _, words := range every() {
		f := of(words...)
		if f.Incr {
			continue
		}
		for _, start := range []bool{false, true} {
			for _, old := range scores() {
				for _, n := range scores() {
					score, did, e := flags.Decide(f, start, old, n)
					is, now := does(start, old, score, did)
					again, didAgain, eAgain := flags.Decide(f, is, now, n)
					if again != score || didAgain != api.DidNone || eAgain != e {
						t.Fatalf("Decide(%q, %t, %d, %d) is %d, %d, %d, and then %d, %d, %d", words, start, old, n, score, did, e, again, didAgain, eAgain)
					}
				}
			}
		}
	}
	// With Incr it is done twice.
	score, _, _ := flags.Decide(api.Add{Incr: true}, false, 0, 3)
	checkDecide(t, api.Add{Incr: true}, true, score, 3, 6, api.DidMove, api.OK)
}

// P12.3: words and flags are one to one.
func TestOneToOne(t *testing.T) {
	whose := map[string]api.Add{}
	for _, words := range every() {
		f := of(words...)
		l := flags.Write(f)
		if flags.Right(f) {
			checkRead(t, l, f, len(l), api.OK)
			checkRead(t, append(slices.Clone(l), "5", "NX"), f, len(l), api.OK)
		} else {
			checkRead(t, l, api.Add{}, 0, api.ErrFlags)
		}
		joined := strings.Join(l, " ")
		if other, is := whose[joined]; is {
			t.Errorf("%+v and %+v are both written %q", f, other, joined)
		}
		whose[joined] = f
	}
	// In whatever order and case words stand, and however often: what is read is written in the order of the six.
	r := rand.New(rand.NewPCG(12, 3))
	for _, words := range every() {
		for range 10 {
			l := append(slices.Clone(words), words[:r.IntN(len(words)+1)]...)
			r.Shuffle(len(l), func(a, b int) { l[a], l[b] = l[b], l[a] })
			for n, word := range l {
				forms := cases(word)
				l[n] = forms[r.IntN(len(forms))]
			}
			f, count, e := flags.Read(l)
			if e == api.OK && (count != len(l) || !slices.Equal(flags.Write(f), words)) {
				t.Errorf("%q is read as %d words, and written as %q", l, count, flags.Write(f))
			}
			if (e == api.OK) != modelRight(of(words...)) {
				t.Errorf("Read(%q) tells %d", l, e)
			}
		}
	}
}

// R3: Read leaves its words, and what stands in their spare room, as they are.
func TestWordsStay(t *testing.T) {
	for _, words := range [][]string{
		{"nx", "Ch", "5", "a"}, {"xx", "nx", "gt"}, {"GT", "gt", "", "LT"}, {"5"}, {}, six(),
	} {
		room := append(slices.Clone(words), "spare", "lt", "room")
		want := slices.Clone(room)
		flags.Read(room[:len(words)])
		if !slices.Equal(room, want) {
			t.Errorf("behind Read(%q) the words are %q", want[:len(words)], room)
		}
	}
	// What stands in the spare room is not read.
	room := []string{"nx", "xx"}
	checkRead(t, room[:1], api.Add{NX: true}, 1, api.OK)
}

// R3: what Write answers may be changed, and written behind, and no later answer tells it.
func TestAnswersAreNew(t *testing.T) {
	for _, words := range every() {
		first, kept := flags.Write(of(words...)), flags.Write(of(words...))
		first = first[:cap(first)]
		for n := range first {
			first[n] = "changed"
		}
		_ = append(first, "more")
		for _, l := range [][]string{kept, flags.Write(of(words...))} {
			if !slices.Equal(l, words) {
				t.Errorf("Write of %q is %q, once another answer is changed", words, l)
			}
		}
		checkRead(t, []string{"nX"}, api.Add{NX: true}, 1, api.OK)
	}
}

// R2, R4: the same call tells the same, whatever was called ahead of it.
func TestNothingIsKept(t *testing.T) {
	for range 3 {
		checkDecide(t, api.Add{Incr: true}, true, 2, 3, 5, api.DidMove, api.OK)
		checkDecide(t, api.Add{Incr: true}, true, most, 3, 0, api.DidNone, api.ErrOverflow)
		checkRead(t, []string{"xx", "nx"}, api.Add{}, 0, api.ErrFlags)
		checkRead(t, []string{"5"}, api.Add{}, 0, api.OK)
		checkRead(t, []string{"incr"}, api.Add{Incr: true}, 1, api.OK)
	}
}
