package glob_test

import (
	"math/rand/v2"
	"slices"
	"strings"
	"testing"
	"time"
	"unicode/utf8"

	"palio/api"
	"palio/glob"
)

// model goes by the document's words, part by part, and tries each end of each star.
func model(p []rune, s []rune) bool {
	if len(p) == 0 {
		return len(s) == 0
	}
	if p[0] == '*' {
		return model(p[1:], s) || len(s) > 0 && model(p, s[1:])
	}
	if len(s) == 0 {
		return false
	}
	if p[0] == '?' {
		return model(p[1:], s[1:])
	}
	if body, none, rest, ok := modelClass(p); ok {
		return modelHas(body, s[0]) != none && model(rest, s[1:])
	}
	if p[0] == '\\' && len(p) > 1 {
		p = p[1:]
	}
	return p[0] == s[0] && model(p[1:], s[1:])
}

func modelClass(p []rune) (body []rune, none bool, rest []rune, ok bool) {
	if p[0] != '[' {
		return nil, false, nil, false
	}
	p = p[1:]
	if len(p) > 0 && p[0] == '^' {
		none, p = true, p[1:]
	}
	if len(p) == 0 {
		return nil, false, nil, false
	}
	end := slices.Index(p[1:], ']') + 1
	if end == 0 {
		return nil, false, nil, false
	}
	return p[:end], none, p[end+1:], true
}

func modelHas(body []rune, r rune) bool {
	if len(body) == 0 {
		return false
	}
	if len(body) >= 3 && body[1] == '-' {
		return body[0] <= r && r <= body[2] || body[2] <= r && r <= body[0] || modelHas(body[3:], r)
	}
	return body[0] == r || modelHas(body[1:], r)
}

func check(t *testing.T, pattern string, s string, want bool) {
	t.Helper()
	if got, e := glob.Match(pattern, s); got != want || e != api.OK {
		t.Errorf("Match(%q, %q) is %v, %d, not %v", pattern, s, got, e, want)
	}
}

// texts are all the texts of up to so many of these letters, the empty one first.
func texts(most int, letters ...string) []string {
	all := []string{""}
	for begin := 0; most > 0; most-- {
		end := len(all)
		for _, s := range all[begin:end] {
			for _, l := range letters {
				all = append(all, s+l)
			}
		}
		begin = end
	}
	return all
}

// sample is a pattern, texts that match it, and texts that don't.
type sample struct {
	pattern string
	yes     []string
	no      []string
}

func checkSamples(t *testing.T, list ...sample) {
	t.Helper()
	for _, c := range list {
		for _, s := range c.yes {
			check(t, c.pattern, s, true)
		}
		for _, s := range c.no {
			check(t, c.pattern, s, false)
		}
	}
}

// P2.1: characters that are themselves, in order, all of them.
func TestMatchPlain(t *testing.T) {
	checkSamples(t,
		sample{"", []string{""}, []string{"a", " ", "\x00", "\xff"}},
		sample{"a", []string{"a"}, []string{"", "A", "b", "aa", "ab", "ba", " a", "a "}},
		sample{"abc", []string{"abc"}, []string{"", "ab", "bc", "ac", "acb", "abcd", "zabc", "abd", "ABC"}},
		sample{"board:1", []string{"board:1"}, []string{"board:", "board:2", "board:11"}},
		sample{"a.c", []string{"a.c"}, []string{"abc"}},
		sample{"a]", []string{"a]"}, []string{"a", "]", "a]]"}},
		sample{"]", []string{"]"}, []string{"", "[", "[]"}},
		sample{"^a-z", []string{"^a-z"}, []string{"b", "a", "^b"}},
		sample{"a\x00b", []string{"a\x00b"}, []string{"a", "ab"}},
		sample{"a\nb", []string{"a\nb"}, []string{"a b"}},
		sample{"{a,b}", []string{"{a,b}"}, []string{"a", "b"}},
		sample{"a+", []string{"a+"}, []string{"a", "aa"}},
	)
}

// P2.1: stars and question marks.
func TestMatchStars(t *testing.T) {
	checkSamples(t,
		sample{"*", []string{"", "a", "abc", "*", "\n", "a\x00b", "é", "\xff\xfe"}, nil},
		sample{"**", []string{"", "a", "ab"}, nil},
		sample{"***", []string{"", "abc"}, nil},
		sample{"a*", []string{"a", "aa", "ab", "a*"}, []string{"", "b", "ba"}},
		sample{"*a", []string{"a", "aa", "ba", "*a"}, []string{"", "b", "ab"}},
		sample{"*a*", []string{"a", "ba", "ab", "bab"}, []string{"", "b", "bb"}},
		sample{"**a**", []string{"a", "bab"}, []string{"", "bb"}},
		sample{"a*c", []string{"ac", "abc", "abbc", "acc", "abcbc", "acac"}, []string{"", "a", "c", "abcb", "bc", "ab"}},
		sample{"a**c", []string{"ac", "abc", "abbc"}, []string{"a", "acb"}},
		sample{"a*b*c", []string{"abc", "abbc", "axbxc", "abcbc"}, []string{"ac", "acb", "ab"}},
		sample{"*ab*ab", []string{"abab", "aababab", "ab ab"}, []string{"ab", "aba", "abb"}},
		sample{"?", []string{"a", "?", "*", "\n", "\x00", "é", "世", "\xff"}, []string{"", "aa", "éé", "\xff\xff"}},
		sample{"??", []string{"ab", "éa", "\xc3\xc3"}, []string{"", "a", "é", "abc"}},
		sample{"?b", []string{"ab", "éb", "\xffb"}, []string{"b", "a", "bb ", "aab"}},
		sample{"*?", []string{"a", "ab"}, []string{""}},
		sample{"?*", []string{"a", "ab"}, []string{""}},
		sample{"*?*?*", []string{"ab", "abc"}, []string{"", "a", "é"}},
		sample{"a?*c", []string{"abc", "acc", "abbc"}, []string{"ac", "ab"}},
	)
}

// P2.1: classes, ranges, and what is in none.
func TestMatchClasses(t *testing.T) {
	checkSamples(t,
		sample{"[abc]", []string{"a", "b", "c"}, []string{"", "d", "ab", "[", "]", "[abc]"}},
		sample{"[a]", []string{"a"}, []string{"", "b", "[a]"}},
		sample{"[aa]", []string{"a"}, []string{"aa"}},
		sample{"[a-c]", []string{"a", "b", "c"}, []string{"", "-", "`", "d", "A"}},
		sample{"[c-a]", []string{"a", "b", "c"}, []string{"-", "`", "d"}},
		sample{"[a-a]", []string{"a"}, []string{"-", "b", "`"}},
		sample{"[a-cx-z]", []string{"a", "b", "c", "x", "y", "z"}, []string{"-", "d", "w"}},
		sample{"[a-cm]", []string{"b", "m"}, []string{"d", "-"}},
		sample{"[ma-c]", []string{"b", "m"}, []string{"d", "-"}},
		sample{"[a-c-e]", []string{"a", "b", "c", "-", "e"}, []string{"d", "f"}},
		sample{"[a-c-]", []string{"a", "b", "c", "-"}, []string{"d"}},
		sample{"[a-c^]x", []string{"ax", "cx", "^x"}, []string{"dx", "x", "^"}},
		sample{"x[a-c]*", []string{"xa", "xbz"}, []string{"x", "xd"}},
		sample{"[ab][cd]", []string{"ac", "bd"}, []string{"ab", "cd", "a", "abcd"}},
		sample{"[*]", []string{"*"}, []string{"", "a"}},
		sample{"[?]", []string{"?"}, []string{"a"}},
		sample{"[[]", []string{"["}, []string{"a", "[[]"}},
		sample{"[a[b]", []string{"a", "[", "b"}, []string{"]"}},
		sample{"[a]]", []string{"a]"}, []string{"a", "]"}},
		sample{"[ -~]", []string{" ", "a", "~", "]", "-"}, []string{"\x1f", "\x7f", "é"}},
	)
}

// P2.1: a class with `^` first takes one character, and none of its own.
func TestMatchNoneOf(t *testing.T) {
	checkSamples(t,
		sample{"[^a]", []string{"b", "^", "]", "é", "\xff", "\n"}, []string{"", "a", "bb"}},
		sample{"[^a-c]", []string{"d", "-", "^", "`"}, []string{"a", "b", "c"}},
		sample{"[^c-a]", []string{"d", "-"}, []string{"a", "b", "c"}},
		sample{"[^^]", []string{"a", "]"}, []string{"^", ""}},
		sample{"[^^a]", []string{"b"}, []string{"^", "a"}},
		sample{"[^^-a]", []string{"b", "-", "]"}, []string{"^", "_", "`", "a"}},
		sample{"[^-]", []string{"a", "^"}, []string{"-"}},
		sample{"[^-a]", []string{"b", "^"}, []string{"-", "a"}},
		sample{"[^a-]", []string{"b", "^"}, []string{"-", "a"}},
		sample{"[^--a]", []string{"b", ","}, []string{"-", "a", "^", "0", "]"}},
		sample{"[a^]", []string{"a", "^"}, []string{"b"}},
		sample{"[a^b]", []string{"a", "^", "b"}, []string{"c"}},
		sample{"[^a]*", []string{"b", "ba"}, []string{"", "a", "ab"}},
	)
}

// P2.1: a `]` that comes first in a class, also behind `^`.
func TestMatchClassOfEnd(t *testing.T) {
	checkSamples(t,
		sample{"[]]", []string{"]"}, []string{"", "[", "[]]", "]]"}},
		sample{"[]a]", []string{"]", "a"}, []string{"", "b", "]a]", "[]a]", "a]"}},
		sample{"[]-a]", []string{"]", "^", "a"}, []string{"-", "b", "["}},
		sample{"[]-]", []string{"]", "-"}, []string{"a", "^"}},
		sample{"[]]]", []string{"]]"}, []string{"]", "]]]"}},
		sample{"[^]]", []string{"a", "^", "["}, []string{"]", "", "[^]]"}},
		sample{"[^]a]", []string{"b", "^"}, []string{"]", "a", "ba]"}},
		sample{"[^]-a]", []string{"b", "-", "["}, []string{"]", "^", "a"}},
		sample{"[^]]]", []string{"a]"}, []string{"]]", "a", "]"}},
	)
}

// P2.1: a `-` that comes first or last, and one that begins or ends a range.
func TestMatchDashes(t *testing.T) {
	checkSamples(t,
		sample{"[-]", []string{"-"}, []string{"a", "[-]"}},
		sample{"[--]", []string{"-"}, []string{"a", ",", ".", "--"}},
		sample{"[---]", []string{"-"}, []string{",", "."}},
		sample{"[----]", []string{"-"}, []string{",", "."}},
		sample{"[-a]", []string{"-", "a"}, []string{"b", ".", "Z"}},
		sample{"[a-]", []string{"-", "a"}, []string{"b", "`"}},
		sample{"[ab-]", []string{"-", "a", "b"}, []string{"c", "_"}},
		sample{"[-a-c]", []string{"-", "a", "b", "c"}, []string{"d", "."}},
		sample{"[--a]", []string{"-", ".", "0", "Z", "]", "a"}, []string{",", "b"}},
		sample{"[--/]", []string{"-", ".", "/"}, []string{",", "0"}},
		sample{"[+--]", []string{"+", ",", "-"}, []string{"*", "."}},
		sample{"[--+]", []string{"+", ",", "-"}, []string{"*", "."}},
		sample{"[a--]", []string{"-", ".", "Z", "a"}, []string{",", "b"}},
		sample{"[+---]", []string{"+", ",", "-"}, []string{"*", "."}},
		sample{"[--/-1]", []string{"-", ".", "/", "1"}, []string{"0", "2"}},
		sample{"[-a-]", []string{"-", "a"}, []string{"b", "."}},
	)
}

// P2.1: behind a range a `-` is no first one, but is followed by what it may begin a range with.
func TestMatchDashBehindRange(t *testing.T) {
	checkSamples(t,
		sample{"[a-c--0]", []string{"a", "b", "c", "-", ".", "/", "0"}, []string{"1", ",", "d"}},
		sample{"[a-c-e-g]", []string{"a", "b", "c", "-", "e", "f", "g"}, []string{"d", "h", "."}},
		sample{"[a-c-e]", []string{"a", "c", "-", "e"}, []string{"d"}},
		sample{"[xa-c-]", []string{"x", "a", "b", "c", "-"}, []string{"d", "w"}},
	)
}

// P2.1: a `[` that no `]` ends is a character itself.
func TestMatchOpen(t *testing.T) {
	checkSamples(t,
		sample{"[", []string{"["}, []string{"", "a", "[["}},
		sample{"[[", []string{"[["}, []string{"["}},
		sample{"[a", []string{"[a"}, []string{"a", "[", "[b"}},
		sample{"[a-c", []string{"[a-c"}, []string{"a", "b"}},
		sample{"[]", []string{"[]"}, []string{"", "[", "]"}},
		sample{"[^", []string{"[^"}, []string{"^", "a"}},
		sample{"[^]", []string{"[^]"}, []string{"", "a", "]", "^"}},
		sample{"[^a", []string{"[^a"}, []string{"b"}},
		sample{"a[", []string{"a["}, []string{"a"}},
		sample{"[*", []string{"[", "[a", "[*"}, []string{"", "a", "*"}},
		sample{"[?", []string{"[a", "[?"}, []string{"[", "a"}},
		sample{"[]*", []string{"[]", "[]a"}, []string{"]", "[", "a"}},
		sample{"[^]?", []string{"[^]a"}, []string{"a", "[^]"}},
		sample{"[^]*a", []string{"[^]a", "[^]ba"}, []string{"a", "[^]"}},
		sample{"[[a]", []string{"[", "a"}, []string{"[a", "[[a]"}},
		sample{"[a][b", []string{"a[b"}, []string{"ab"}},
		sample{"[\\", []string{"[\\"}, []string{"[", "\\"}},
		sample{"[\\*", []string{"[*"}, []string{"[a", "[\\*", "["}},
		sample{"\\[a]", []string{"[a]"}, []string{"a", "\\a"}},
	)
}

// P2.1: a `\` ahead of a character, last, and in a class.
func TestMatchBackslash(t *testing.T) {
	checkSamples(t,
		sample{"\\", []string{"\\"}, []string{"", "a", "\\\\"}},
		sample{"\\\\", []string{"\\"}, []string{"", "\\\\"}},
		sample{"\\\\\\", []string{"\\\\"}, []string{"\\", "\\\\\\"}},
		sample{"a\\", []string{"a\\"}, []string{"a", "\\"}},
		sample{"*\\", []string{"\\", "a\\"}, []string{"", "a"}},
		sample{"\\*", []string{"*"}, []string{"", "a", "\\", "\\*", "**"}},
		sample{"\\?", []string{"?"}, []string{"a", "\\?"}},
		sample{"\\a", []string{"a"}, []string{"\\a", "\\"}},
		sample{"\\n", []string{"n"}, []string{"\n"}},
		sample{"\\]", []string{"]"}, []string{"\\]"}},
		sample{"\\é", []string{"é"}, []string{"\\é", "e"}},
		sample{"\\\\*", []string{"\\", "\\a"}, []string{"*", "", "a"}},
		sample{"\\**", []string{"*", "*a"}, []string{"", "a"}},
		sample{"[\\]", []string{"\\"}, []string{"[\\]", "]", "a"}},
		sample{"[\\]]", []string{"\\]"}, []string{"\\", "]"}},
		sample{"[a\\]b]", []string{"ab]", "\\b]"}, []string{"]", "b", "]b]"}},
		sample{"[\\*]", []string{"\\", "*"}, []string{"a", "\\*"}},
		sample{"[\\-a]", []string{"\\", "]", "^", "_", "`", "a"}, []string{"-", "[", "b"}},
		sample{"[X-\\]", []string{"X", "Y", "Z", "[", "\\"}, []string{"-", "]"}},
		sample{"[^\\]", []string{"a"}, []string{"\\", ""}},
	)
}

// P2.1: characters of more than one byte are one; so is each byte that belongs to none, and all of these, and U+FFFD, are the same.
func TestMatchCharacters(t *testing.T) {
	checkSamples(t,
		sample{"é", []string{"é"}, []string{"e", "\xc3", "\xa9", "e\u0301", "éé"}},
		sample{"[é]", []string{"é"}, []string{"\xc3", "\xa9", "e"}},
		sample{"[^é]", []string{"e", "\xc3", "世"}, []string{"é", "\xc3\xc3"}},
		sample{"[а-я]", []string{"а", "к", "я"}, []string{"a", "А", "ё", "-"}},
		sample{"[я-а]", []string{"к"}, []string{"a"}},
		sample{"[a-世]", []string{"a", "é", "世"}, []string{"A", "\U0001F3C1", "\xff"}},
		sample{"?世*", []string{"a世", "\U0001F3C1世界"}, []string{"世", "a界"}},
		sample{"\U0001F3C1", []string{"\U0001F3C1"}, []string{"\U0001F3C2", "????"}},
		sample{"*\xa9", []string{"\xa9", "a\xff"}, []string{"é", "\xa9é"}},
		sample{"\xff", []string{"\xff", "\xfe", "\x80", "\xc3", "\uFFFD"}, []string{"", "a", "ÿ", "\xff\xff", "\xc3\xa9", "\uFFFE"}},
		sample{"\uFFFD", []string{"\uFFFD", "\xff", "\x80"}, []string{"\xef\xbf", "\uFFFC", "a"}},
		sample{"\\\xff", []string{"\xfe", "\uFFFD"}, []string{"\\", "\\\xff"}},
		sample{"[\xff]", []string{"\xff", "\x80", "\uFFFD"}, []string{"a", "ÿ"}},
		sample{"[^\xff]", []string{"a", "ÿ"}, []string{"\xff", "\x80", "\uFFFD", "\x80\x80"}},
		sample{"[a\x80-\xffb]", []string{"a", "b", "\xc0", "\uFFFD"}, []string{"é", "-", "\u00c0"}},
		sample{"[\uFFFC-\uFFFE]", []string{"\xff", "\uFFFC", "\uFFFE"}, []string{"\uFFFB", "\uFFFF"}},
		sample{"[a-\xff]", []string{"a", "é", "世", "\x80", "\uFFFD"}, []string{"A", "\uFFFE", "\U0001F3C1"}},
		sample{"??", []string{"\xe4\xb8", "\xc0\x80", "é\xff"}, []string{"\xe4\xb8\x96", "\xed\xa0\x80"}},
		sample{"???", []string{"\xed\xa0\x80", "\xf0\x9f\x8f"}, []string{"\xf0\x9f\x8f\x81"}},
		sample{"????", []string{"\xf4\x90\x80\x80"}, []string{"\xf4\x8f\xbf\xbf"}},
		sample{"\xc3*\xa9", []string{"\xc3\xff\xa9", "\xa9\xc3", "\uFFFD\uFFFD"}, []string{"\xc3\xa9", "é", "\xc3"}},
		sample{"\xe4?", []string{"\xe4a", "\xb8\x96", "\xe4\xb8"}, []string{"\xe4\xb8\x96", "世"}},
		sample{"世", []string{"\xe4\xb8\x96"}, []string{"\xe4\xb8", "\xe4", "\xe4\xb8\x96\x96"}},
	)
}

// P2.1: the limits are of bytes, and beside the error nothing matches.
func TestMatchLimits(t *testing.T) {
	long := strings.Repeat
	for _, c := range []struct {
		pattern string
		s       string
		want    bool
		e       api.Errno
	}{
		{long("a", 64), long("a", 64), true, api.OK},
		{long("a", 65), long("a", 65), false, api.ErrGlob},
		{long("*", 64), "", true, api.OK},
		{long("*", 65), "", false, api.ErrGlob},
		{long("é", 32), long("é", 32), true, api.OK},
		{long("é", 32) + "a", long("é", 32) + "a", false, api.ErrGlob},
		{long("é", 33), "", false, api.ErrGlob},
		{long("\xff", 64), long("\xff", 64), true, api.OK},
		{long("\xff", 65), long("\xff", 65), false, api.ErrGlob},
		{long("\\", 64), long("\\", 32), true, api.OK},
		{"[" + long("a", 61) + "b]", "b", true, api.OK},
		{"[" + long("a", 62) + "b]", "b", false, api.ErrGlob},
		{"*", long("a", 512), true, api.OK},
		{"*", long("a", 513), false, api.ErrGlob},
		{"*b", long("a", 511) + "b", true, api.OK},
		{"*b", long("a", 512), false, api.OK},
		{"*", long("é", 256), true, api.OK},
		{"*", long("é", 256) + "a", false, api.ErrGlob},
		{"*", long("é", 257), false, api.ErrGlob},
		{"*", long("\xff", 512), true, api.OK},
		{"*", long("\xff", 513), false, api.ErrGlob},
		{"", long("a", 513), false, api.ErrGlob},
		{"", long("a", 512), false, api.OK},
		{long("*", 65), long("a", 513), false, api.ErrGlob},
		{long("*", 1<<20), "", false, api.ErrGlob},
		{"*", long("a", 1<<20), false, api.ErrGlob},
	} {
		if got, e := glob.Match(c.pattern, c.s); got != c.want || e != c.e {
			t.Errorf("Match(%.70q, %.20q of %d) is %v, %d, not %v, %d", c.pattern, c.s, len(c.s), got, e, c.want, c.e)
		}
	}
}

// P2.1: all short patterns of what has a meaning, with all short texts of it.
func TestMatchShort(t *testing.T) {
	letters := []string{"*", "?", "[", "]", "^", "-", "\\", "a", "b"}
	all := texts(2, letters...)
	for _, pattern := range texts(5, letters...) {
		few := all
		if len(pattern) == 5 {
			few = all[:1+len(letters)]
		}
		for _, s := range few {
			check(t, pattern, s, model([]rune(pattern), []rune(s)))
		}
	}
}

// P2.1: the insides of a class, with each character that they may mean.
func TestMatchClassShort(t *testing.T) {
	for _, inside := range texts(4, "]", "^", "-", "\\", "[", "*", "a", "c", "é", "\xff", "+") {
		for _, pattern := range []string{"[" + inside + "]", "[^" + inside + "]"} {
			for _, s := range []string{"]", "^", "-", "\\", "[", "a", "b", "c", "é", "\xfe", "\uFFFD", "世", ",", "."} {
				check(t, pattern, s, model([]rune(pattern), []rune(s)))
			}
		}
	}
}

// some is a text of up to so many of these letters.
func some(r *rand.Rand, most int, letters ...string) string {
	var b strings.Builder
	for range r.IntN(most + 1) {
		b.WriteString(letters[r.IntN(len(letters))])
	}
	return b.String()
}

// P2.1: longer patterns, the same ones each time, with texts that often match.
func TestMatchLonger(t *testing.T) {
	r := rand.New(rand.NewPCG(3, 4))
	matched := 0
	for range 200000 {
		pattern := some(r, 9, "*", "*", "?", "a", "b", "é", "\xff", "[ab]", "[^a]", "[a-é]", "[", "]", "-", "\\", "^")
		s := some(r, 8, "a", "a", "b", "b", "é", "\xfe", "[", "]", "-", "\\")
		want := model([]rune(pattern), []rune(s))
		check(t, pattern, s, want)
		if want {
			matched++
		}
	}
	if matched < 5000 {
		t.Errorf("just %d matched", matched)
	}
}

// P2.1: each call ends soon, however many ends the stars may have.
func TestMatchManyStars(t *testing.T) {
	begin := time.Now()
	long := strings.Repeat
	for _, c := range []struct {
		pattern  string
		as, last bool
	}{
		{long("*a", 31) + "*b", false, true},
		{long("a*", 32), true, true},
		{long("*?", 32), true, true},
		{long("*", 63) + "b", false, true},
		{long("*[^b]", 12) + "b", false, true},
		{long("*b", 32), false, false},
	} {
		check(t, c.pattern, long("a", 512), c.as)
		check(t, c.pattern, long("a", 511)+"b", c.last)
	}
	if d := time.Since(begin); d > 10*time.Second {
		t.Errorf("it took %v", d)
	}
}

// P2.1: what a call answers hangs on its arguments alone.
func TestMatchAgain(t *testing.T) {
	for range 3 {
		check(t, "[a-c^]x", "^x", true)
		check(t, "[^a]*", "ab", false)
	}
}

// P2.1: characters are counted, not bytes; each byte that belongs to none is one.
func TestCount(t *testing.T) {
	for s, want := range map[string]int{
		"": 0, "a": 1, "abc": 3, "\x00": 1, "é": 1, "e\u0301": 2, "世界": 2, "\U0001F3C1": 1, "é\xff世": 3,
		"\xff": 1, "\xff\xfe": 2, "\x80": 1, "\xc3": 1, "\xe4\xb8": 2, "\xe4\xb8a": 3, "\xf0\x9f\x8f": 3, "\uFFFD": 1,
		"\xc0\x80": 2, "\xed\xa0\x80": 3, "\xf4\x90\x80\x80": 4, "*?[\\": 4, "\\*": 2,
	} {
		if n := glob.Count(s); n != want {
			t.Errorf("Count(%q) is %d, not %d", s, n, want)
		}
	}
	for _, s := range texts(5, "a", "\xe4", "\xb8", "\x96", "é", "\xff", "\xf0") {
		if n := glob.Count(s); n != utf8.RuneCountInString(s) {
			t.Errorf("Count(%q) is %d", s, n)
		}
	}
	if n := glob.Count(strings.Repeat("é\xff", 1<<16)); n != 1<<17 {
		t.Errorf("Count of 2^17 characters is %d", n)
	}
}

// P2.2: four characters make a pattern more than a text.
func TestPlain(t *testing.T) {
	for s, want := range map[string]bool{
		"": true, "a": true, "abc": true, "a]^-": true, "]": true, "^": true, "-": true, "{a,b}.+$()|/": true, "é世": true, "\xff": true, "\x00": true, "＊": true, "？": true,
		"*": false, "?": false, "[": false, "\\": false, "a*": false, "*a": false, "a?b": false, "[a]": false, "a[": false, "a\\": false, "\\a": false, "é*": false, "\xff?": false, "\xc3*": false, "\xc3[": false,
	} {
		if is := glob.Plain(s); is != want {
			t.Errorf("Plain(%q) is %v", s, is)
		}
	}
	for b := range 256 {
		s := string([]byte{byte(b)})
		if is := glob.Plain(s); is == strings.Contains("*?[\\", s) {
			t.Errorf("Plain(%q) is %v", s, is)
		}
	}
	long := strings.Repeat("a", 1<<16)
	if !glob.Plain(long) || glob.Plain(long+"*") || glob.Plain("["+long) {
		t.Error("Plain of long texts")
	}
}

// P2.2: a `\` ahead of each of the four, and all other bytes as they are.
func TestQuote(t *testing.T) {
	for s, want := range map[string]string{
		"": "", "a": "a", "abc": "abc", "*": "\\*", "?": "\\?", "[": "\\[", "\\": "\\\\", "]": "]", "^": "^", "-": "-", "**": "\\*\\*", "\\*": "\\\\\\*",
		"a*[b]?\\": "a\\*\\[b]\\?\\\\", "[^a-c]": "\\[^a-c]", "é*世": "é\\*世", "\xff": "\xff", "\xff*": "\xff\\*", "\xc3*\xa9": "\xc3\\*\xa9", "\xe4\xb8": "\xe4\xb8", "\uFFFD": "\uFFFD", "\x00": "\x00",
	} {
		if q := glob.Quote(s); q != want {
			t.Errorf("Quote(%q) is %q, not %q", s, q, want)
		}
	}
	r := strings.NewReplacer("*", "\\*", "?", "\\?", "[", "\\[", "\\", "\\\\")
	for _, s := range texts(5, "*", "?", "[", "\\", "]", "a", "\xc3", "\xa9") {
		if q := glob.Quote(s); q != r.Replace(s) {
			t.Errorf("Quote(%q) is %q", s, q)
		}
	}
	long := strings.Repeat("a*", 1<<16)
	if glob.Quote(long) != strings.Repeat("a\\*", 1<<16) {
		t.Error("Quote of a long text")
	}
}

// P2.3: what is quoted, and what is plain, matches just what has the same characters; `*` matches all.
func TestQuotedMatchesItself(t *testing.T) {
	all := texts(3, "*", "?", "[", "]", "\\", "^", "-", "a", "é", "\xff", "\xc3", "\uFFFD")
	for at, s := range all {
		q := glob.Quote(s)
		check(t, q, s, true)
		check(t, "*", s, true)
		for step := 0; step < len(all); step += 1 + (at+step)%7 {
			other := all[step]
			same := slices.Equal([]rune(s), []rune(other))
			check(t, q, other, same)
			if glob.Plain(s) {
				check(t, s, other, same)
			}
		}
	}
}

// P2.3: the same with the longest patterns and texts.
func TestLongMatchesItself(t *testing.T) {
	for _, l := range []string{"*", "?", "[", "\\"} {
		s := strings.Repeat(l, 32)
		check(t, glob.Quote(s), s, true)
		check(t, glob.Quote(s), s[1:], false)
		check(t, glob.Quote(s), s+l, false)
	}
	for _, l := range []string{"a", "]", "\xff", "^"} {
		s := strings.Repeat(l, 64)
		check(t, s, s, true)
		check(t, s, s[1:], false)
		check(t, s, s+l, false)
		check(t, "*", strings.Repeat(l, 512), true)
	}
	check(t, strings.Repeat("\xff", 21), strings.Repeat("\uFFFD", 21), true)
}
