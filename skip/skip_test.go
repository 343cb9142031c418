package skip_test

import (
	"fmt"
	"math"
	"math/rand/v2"
	"slices"
	"strings"
	"testing"

	"palio/api"
	"palio/skip"
)

const (
	least = math.MinInt64
	most  = math.MaxInt64
)

// model goes by the document's words: a plain list of entries in their order, each with its level.
type model struct {
	entries []api.Entry
	levels  []int
}

// stands holds scores against each other, of one score the members' bytes.
func stands(a api.Entry, b api.Entry) int {
	switch {
	case a.Score < b.Score:
		return -1
	case a.Score > b.Score:
		return 1
	}
	return slices.Compare([]byte(a.Member), []byte(b.Member))
}

func (m *model) seek(e api.Entry) (int, bool) {
	for at, there := range m.entries {
		if side := stands(there, e); side >= 0 {
			return at, side == 0
		}
	}
	return len(m.entries), false
}

func (m *model) insert(e api.Entry, level int) api.Errno {
	at, there := m.seek(e)
	switch {
	case level < 1 || level > 32:
		return api.ErrArg
	case there:
		return api.ErrSkip
	}
	m.entries = slices.Insert(m.entries, at, e)
	m.levels = slices.Insert(m.levels, at, level)
	return api.OK
}

func (m *model) delete(e api.Entry) bool {
	at, there := m.seek(e)
	if there {
		m.cut(at, at+1)
	}
	return there
}

func (m *model) at(place int) (api.Entry, bool) {
	if place < 0 || place >= len(m.entries) {
		return api.Entry{}, false
	}
	return m.entries[place], true
}

// part asks of each place whether it is one of the range.
func (m *model) part(from int, to int) []api.Entry {
	var l []api.Entry
	for at, e := range m.entries {
		if from <= at && at < to {
			l = append(l, e)
		}
	}
	return l
}

func (m *model) turned(from int, to int) []api.Entry {
	l := m.part(from, to)
	slices.Reverse(l)
	return l
}

func (m *model) cut(from int, to int) int {
	var entries []api.Entry
	var levels []int
	for at, e := range m.entries {
		if at < from || at >= to {
			entries, levels = append(entries, e), append(levels, m.levels[at])
		}
	}
	n := len(m.entries) - len(entries)
	m.entries, m.levels = entries, levels
	return n
}

func (m *model) greatest() int { return slices.Max(append([]int{0}, m.levels...)) }

func (m *model) spans(level int) []int {
	var spans []int
	last := -1
	for at, of := range m.levels {
		if 1 <= level && level <= 32 && of >= level {
			spans = append(spans, at-last)
			last = at
		}
	}
	return spans
}

// both are a list and its model, to which the same is done.
type both struct {
	t *testing.T
	l *skip.List
	m *model
}

func newBoth(t *testing.T) both { return both{t, skip.New(), &model{}} }

func (b both) insert(e api.Entry, level int) {
	b.t.Helper()
	if got, want := b.l.Insert(e, level), b.m.insert(e, level); got != want {
		b.t.Errorf("Insert(%.60q, %d) is %d, not %d", e.Member, level, got, want)
	}
	checkLen(b.t, b.l, len(b.m.entries))
}

func (b both) delete(e api.Entry) {
	b.t.Helper()
	if got, want := b.l.Delete(e), b.m.delete(e); got != want {
		b.t.Errorf("Delete(%.60q) is %t", e.Member, got)
	}
	checkLen(b.t, b.l, len(b.m.entries))
}

func (b both) cut(from int, to int) {
	b.t.Helper()
	if got, want := b.l.Cut(from, to), b.m.cut(from, to); got != want {
		b.t.Errorf("Cut(%d, %d) is %d, not %d", from, to, got, want)
	}
	checkLen(b.t, b.l, len(b.m.entries))
}

// places are about all places of a short list, some of a longer one, and such that are far from any.
func (b both) places() []int {
	n := len(b.m.entries)
	l := []int{math.MinInt, math.MinInt + 1, math.MinInt32, -n - 1, -2, -1, 0, 1, 2, n / 3, n / 2, n - 2, n - 1, n, n + 1, n + 2, 2 * n, math.MaxInt32, math.MaxInt - 1, math.MaxInt}
	if n <= 12 {
		for at := range n {
			l = append(l, at)
		}
	}
	slices.Sort(l)
	return slices.Compact(l)
}

// all holds what every call tells that changes nothing.
func (b both) all() {
	b.t.Helper()
	b.sought()
	b.spans()
	for _, from := range b.places() {
		for _, to := range b.places() {
			checkEntries(b.t, fmt.Sprintf("Range(%d, %d)", from, to), b.l.Range(from, to), b.m.part(from, to))
			checkEntries(b.t, fmt.Sprintf("Back(%d, %d)", from, to), b.l.Back(from, to), b.m.turned(from, to))
		}
	}
}

// sought holds what is at each place against where it is sought, and seeks what is next to it.
func (b both) sought() {
	b.t.Helper()
	checkLen(b.t, b.l, len(b.m.entries))
	for at, e := range b.m.entries {
		checkAt(b.t, b.l, at, e, true)
		checkSeek(b.t, b.l, e, at, true)
		behind := api.Entry{Member: e.Member + "\x00", Score: e.Score}
		place, there := b.m.seek(behind)
		checkSeek(b.t, b.l, behind, place, there)
	}
	for _, place := range b.places() {
		e, there := b.m.at(place)
		checkAt(b.t, b.l, place, e, there)
	}
}

func (b both) spans() {
	b.t.Helper()
	checkLevels(b.t, b.l, b.m.greatest())
	for level := -2; level <= 35; level++ {
		checkSpans(b.t, b.l, level, b.m.spans(level)...)
	}
}

func checkLen(t *testing.T, l *skip.List, want int) {
	t.Helper()
	if n := l.Len(); n != want {
		t.Errorf("there are %d entries, not %d", n, want)
	}
}

func checkAt(t *testing.T, l *skip.List, place int, want api.Entry, wantThere bool) {
	t.Helper()
	if e, there := l.At(place); e != want || there != wantThere {
		t.Errorf("At(%d) is %.60q %d, %t, not %.60q %d, %t", place, e.Member, e.Score, there, want.Member, want.Score, wantThere)
	}
}

func checkSeek(t *testing.T, l *skip.List, e api.Entry, want int, wantThere bool) {
	t.Helper()
	if place, there := l.Seek(e); place != want || there != wantThere {
		t.Errorf("Seek(%.60q %d) is %d, %t, not %d, %t", e.Member, e.Score, place, there, want, wantThere)
	}
}

func checkEntries(t *testing.T, call string, got []api.Entry, want []api.Entry) {
	t.Helper()
	if !slices.Equal(got, want) {
		t.Errorf("%s is %.300q, not %.300q", call, fmt.Sprint(got), fmt.Sprint(want))
	}
}

func checkLevels(t *testing.T, l *skip.List, want int) {
	t.Helper()
	if n := l.Levels(); n != want {
		t.Errorf("the greatest level is %d, not %d", n, want)
	}
}

func checkSpans(t *testing.T, l *skip.List, level int, want ...int) {
	t.Helper()
	if spans := l.Spans(level); !slices.Equal(spans, want) {
		t.Errorf("Spans(%d) is %v, not %v", level, spans, want)
	}
}

func checkInsert(t *testing.T, l *skip.List, e api.Entry, level int, want api.Errno) {
	t.Helper()
	if got := l.Insert(e, level); got != want {
		t.Errorf("Insert(%.60q %d, %d) is %d, not %d", e.Member, e.Score, level, got, want)
	}
}

func checkDelete(t *testing.T, l *skip.List, e api.Entry, want bool) {
	t.Helper()
	if got := l.Delete(e); got != want {
		t.Errorf("Delete(%.60q %d) is %t", e.Member, e.Score, got)
	}
}

func checkCut(t *testing.T, l *skip.List, from int, to int, want int) {
	t.Helper()
	if got := l.Cut(from, to); got != want {
		t.Errorf("Cut(%d, %d) is %d, not %d", from, to, got, want)
	}
}

func entry(member string, score int64) api.Entry { return api.Entry{Member: member, Score: score} }

// letters are entries of one score and of the members a, b, c .., with the levels.
func letters(t *testing.T, levels ...int) *skip.List {
	t.Helper()
	l := skip.New()
	for at, level := range levels {
		checkInsert(t, l, entry(string(rune('a'+at)), 0), level, api.OK)
	}
	return l
}

// members tells a list's members, each a letter.
func members(entries []api.Entry) string {
	s := ""
	for _, e := range entries {
		s += e.Member
	}
	return s
}

// checkMembers holds what all stand as, both ways, and at each place.
func checkMembers(t *testing.T, l *skip.List, want string) {
	t.Helper()
	if got := members(l.Range(0, len(want))); got != want {
		t.Errorf("the members are %s, not %s", got, want)
	}
	back := []byte(members(l.Back(0, len(want))))
	slices.Reverse(back)
	if string(back) != want {
		t.Errorf("the members are %s by the links back, not %s", back, want)
	}
	checkLen(t, l, len(want))
	for at := range len(want) {
		e, there := l.At(at)
		if e.Member != want[at:at+1] || !there {
			t.Errorf("At(%d) is %q, %t, of %s", at, e.Member, there, want)
		}
		checkSeek(t, l, e, at, true)
	}
	checkAt(t, l, -1, api.Entry{}, false)
	checkAt(t, l, len(want), api.Entry{}, false)
}

// P10.1, P10.2: an empty list, at all numbers.
func TestEmpty(t *testing.T) {
	b := newBoth(t)
	b.all()
	if skip.New() == skip.New() {
		t.Error("New answers one list twice")
	}
	for _, e := range []api.Entry{{}, entry("a", 0), entry("", least), entry("\xff", most)} {
		checkSeek(t, b.l, e, 0, false)
		checkDelete(t, b.l, e, false)
	}
	for _, from := range b.places() {
		for _, to := range b.places() {
			checkCut(t, b.l, from, to, 0)
		}
	}
	b.all()
}

// P10.1: one list's entries are no other one's.
func TestTwoLists(t *testing.T) {
	a, b := letters(t, 1, 2, 3), letters(t, 3)
	checkDelete(t, b, entry("a", 0), true)
	checkMembers(t, a, "abc")
	checkMembers(t, b, "")
	checkLevels(t, a, 3)
	checkLevels(t, b, 0)
}

// P10.1: each level is taken, from the least to the greatest one, and none beside.
func TestInsertLevels(t *testing.T) {
	for level := 1; level <= 32; level++ {
		b := newBoth(t)
		b.insert(entry("m", 5), level)
		checkMembers(t, b.l, "m")
		checkLevels(t, b.l, level)
		b.all()
	}
	for _, level := range []int{0, 33, -1, 34, -32, 64, 255, 256 + 1, 1 << 32, 1<<32 + 1, -1 << 32, -1<<32 + 1, math.MinInt32, math.MaxInt32, math.MinInt, math.MinInt + 1, math.MaxInt} {
		b := newBoth(t)
		checkInsert(t, b.l, entry("m", 5), level, api.ErrArg)
		b.all()
		b.insert(entry("m", 5), 2)
		b.insert(entry("n", 5), level)
		// The level is wrong, whether the entry is there or not.
		checkInsert(t, b.l, entry("m", 5), level, api.ErrArg)
		b.all()
	}
}

// P10.1: an entry that is there is refused, whatever its level; it keeps the one that it has.
func TestInsertThere(t *testing.T) {
	b := newBoth(t)
	for at, e := range []api.Entry{entry("a", 1), entry("b", 1), entry("", 2), entry("a", 2), entry("a", most)} {
		b.insert(e, at*8%32+1)
	}
	for _, e := range slices.Clone(b.m.entries) {
		for level := 1; level <= 32; level++ {
			checkInsert(t, b.l, e, level, api.ErrSkip)
		}
	}
	b.all()
	e := entry("b", 1)
	checkDelete(t, b.l, e, true)
	checkInsert(t, b.l, e, 32, api.OK)
	checkInsert(t, b.l, e, 32, api.ErrSkip)
}

// P10.1: entries ahead of all, behind all and between, with one score, with one member, and with both others.
func TestInsertOrder(t *testing.T) {
	for _, c := range [][]api.Entry{
		{entry("a", 0), entry("b", 0), entry("c", 0), entry("d", 0), entry("e", 0)},
		{entry("m", -2), entry("m", -1), entry("m", 0), entry("m", 1), entry("m", 2)},
		{entry("m", least), entry("m", least+1), entry("m", 0), entry("m", most-1), entry("m", most)},
		{entry("z", -10), entry("y", -9), entry("b", 9), entry("a", 10), entry("", 100)},
		{entry("", 7), entry("\x00", 7), entry("\x00\x00", 7), entry("\x00a", 7), entry("\x01", 7)},
		{entry("", 7), entry("a", 7), entry("a\x00", 7), entry("aa", 7), entry("b", 7)},
		{entry("10", 7), entry("9", 7), entry("B", 7), entry("a", 7), entry("z", 7)},
		{entry("z", 7), entry("\x7f", 7), entry("\x80", 7), entry("é", 7), entry("\xff", 7)},
		{entry("\xff\xff", -1), entry("", 0), entry("b", 0), entry("a", 1), entry("b", 1)},
		{entry(strings.Repeat("x", 300), 0), entry(strings.Repeat("x", 301), 0), entry(strings.Repeat("x", 299)+"y", 0), entry("y", 0), entry("a", 1)},
	} {
		for _, order := range orders(len(c)) {
			b := newBoth(t)
			for n, at := range order {
				b.insert(c[at], (n*n+at)%4+1)
			}
			checkEntries(t, "Range of all", b.l.Range(0, len(c)), c)
			b.sought()
			b.spans()
		}
	}
}

// orders are all the orders of so many places.
func orders(n int) [][]int {
	if n == 0 {
		return [][]int{nil}
	}
	var l [][]int
	for _, order := range orders(n - 1) {
		for at := range n {
			l = append(l, slices.Insert(slices.Clone(order), at, n-1))
		}
	}
	return l
}

// P10.1: the first one, the last one, one between, the one of the greatest level, the only one, and such that are not there.
func TestDelete(t *testing.T) {
	for _, c := range []struct {
		member string
		left   string
		levels int
		spans  []int // of level 2
	}{
		{"a", "bcdef", 5, []int{1, 2, 2}},
		{"b", "acdef", 5, []int{3, 2}},
		{"c", "abdef", 5, []int{2, 1, 2}},
		{"d", "abcef", 3, []int{2, 3}},
		{"e", "abcdf", 5, []int{2, 2, 1}},
		{"f", "abcde", 5, []int{2, 2}},
	} {
		l := letters(t, 1, 3, 1, 5, 1, 2)
		checkDelete(t, l, entry(c.member, 0), true)
		checkMembers(t, l, c.left)
		checkLevels(t, l, c.levels)
		checkSpans(t, l, 2, c.spans...)
		checkSeek(t, l, entry(c.member, 0), int(c.member[0]-'a'), false)
		checkDelete(t, l, entry(c.member, 0), false)
		checkMembers(t, l, c.left)
		checkInsert(t, l, entry(c.member, 0), 1, api.OK)
		checkMembers(t, l, "abcdef")
	}
	l := letters(t, 1, 3, 1, 5, 1, 2)
	for _, e := range []api.Entry{{}, entry("A", 0), entry("aa", 0), entry("g", 0), entry("\xff", 0), entry("c", 1), entry("c", -1), entry("d", most), entry("d", least), entry("c\x00", 0), entry("", 1)} {
		checkDelete(t, l, e, false)
		checkMembers(t, l, "abcdef")
	}
	checkSpans(t, l, 2, 2, 2, 2)
	checkLevels(t, l, 5)
}

// P10.1: the only one, whatever its level; the list is as a new one.
func TestDeleteOnly(t *testing.T) {
	for level := 1; level <= 32; level++ {
		b := newBoth(t)
		b.insert(entry("m", 5), level)
		for _, e := range []api.Entry{entry("m", 4), entry("m", 6), entry("l", 5), entry("n", 5)} {
			b.delete(e)
		}
		b.delete(entry("m", 5))
		b.all()
		b.delete(entry("m", 5))
		b.insert(entry("n", 5), 33-level)
		b.all()
	}
}

// P10.1: of one score and of one member each is told by the other.
func TestDeleteAlike(t *testing.T) {
	b := newBoth(t)
	for score := range int64(5) {
		for _, member := range []string{"", "a", "ab", "b"} {
			b.insert(entry(member, score), int(score)+len(member)+1)
		}
	}
	b.delete(entry("a", 2))
	b.all()
	b.delete(entry("", 0))
	b.delete(entry("b", 4))
	b.delete(entry("ab", 3))
	b.delete(entry("ab", 3))
	b.all()
}

// P10.1: what is there, between two, ahead of all, behind all.
func TestSeek(t *testing.T) {
	l := skip.New()
	for at, e := range []api.Entry{entry("a", 1), entry("b", 1), entry("c", 0), entry("d", 3)} {
		checkInsert(t, l, e, at+1, api.OK)
	}
	for _, c := range []struct {
		e     api.Entry
		place int
		there bool
	}{
		{entry("c", 0), 0, true},
		{entry("a", 1), 1, true},
		{entry("b", 1), 2, true},
		{entry("d", 3), 3, true},
		{entry("", least), 0, false},
		{entry("z", -1), 0, false},
		{entry("", 0), 0, false},
		{entry("b\xff", 0), 0, false},
		{entry("c\x00", 0), 1, false},
		{entry("d", 0), 1, false},
		{entry("", 1), 1, false},
		{entry("A", 1), 1, false},
		{entry("a\x00", 1), 2, false},
		{entry("ab", 1), 2, false},
		{entry("b\x00", 1), 3, false},
		{entry("c", 1), 3, false},
		{entry("a", 2), 3, false},
		{entry("", 3), 3, false},
		{entry("c", 3), 3, false},
		{entry("d\x00", 3), 4, false},
		{entry("e", 3), 4, false},
		{entry("", 4), 4, false},
		{entry("\xff", most), 4, false},
	} {
		checkSeek(t, l, c.e, c.place, c.there)
	}
	checkLen(t, l, 4)
}

// P10.1: the entry of each place, and none of any other one.
func TestAt(t *testing.T) {
	l := letters(t, 2, 1, 4, 1, 1, 2)
	for at, member := range []string{"a", "b", "c", "d", "e", "f"} {
		checkAt(t, l, at, entry(member, 0), true)
	}
	for _, place := range []int{-1, 6, -2, 7, -6, 12, 1 << 32, 1<<32 + 1, -1 << 32, -1<<32 + 1, math.MinInt32, math.MaxInt32, math.MinInt, math.MaxInt} {
		checkAt(t, l, place, api.Entry{}, false)
	}
}

// ranges are told of the members abcdef.
func ranges() []struct {
	from, to int
	want     string
} {
	return []struct {
		from, to int
		want     string
	}{
		{0, 6, "abcdef"}, {0, 1, "a"}, {5, 6, "f"}, {2, 4, "cd"}, {1, 6, "bcdef"}, {0, 5, "abcde"}, {3, 4, "d"},
		{0, 0, ""}, {3, 3, ""}, {6, 6, ""}, {4, 2, ""}, {6, 0, ""}, {5, 4, ""}, {1, 0, ""},
		{-1, 6, "abcdef"}, {-5, 2, "ab"}, {-1, 1, "a"}, {-1, 0, ""}, {-2, -1, ""}, {-1, -2, ""}, {-6, -1, ""}, {0, -1, ""}, {3, -1, ""}, {3, -3, ""},
		{0, 7, "abcdef"}, {4, 100, "ef"}, {5, 7, "f"}, {6, 7, ""}, {6, 100, ""}, {7, 6, ""}, {100, 0, ""}, {100, 200, ""}, {200, 100, ""},
		{-100, 100, "abcdef"}, {100, -100, ""},
		{math.MinInt, math.MaxInt, "abcdef"}, {math.MaxInt, math.MinInt, ""}, {math.MinInt, 3, "abc"}, {3, math.MaxInt, "def"},
		{math.MinInt, math.MinInt, ""}, {math.MaxInt, math.MaxInt, ""}, {math.MinInt, 0, ""}, {6, math.MaxInt, ""}, {3, math.MinInt, ""}, {math.MaxInt, 3, ""},
		{1 << 32, 1<<32 + 6, ""}, {-1 << 32, 1 << 32, "abcdef"}, {1<<32 + 1, 3, ""}, {2, 1<<32 + 1, "cdef"},
	}
}

// P10.2: the entries of places, and the last one first.
func TestRange(t *testing.T) {
	for _, levels := range [][]int{{1, 1, 1, 1, 1, 1}, {32, 32, 32, 32, 32, 32}, {1, 3, 1, 5, 1, 2}, {6, 5, 4, 3, 2, 1}, {1, 2, 3, 4, 5, 6}} {
		l := letters(t, levels...)
		for _, c := range ranges() {
			if got := members(l.Range(c.from, c.to)); got != c.want {
				t.Errorf("Range(%d, %d) is %s, not %s", c.from, c.to, got, c.want)
			}
			turned := []byte(c.want)
			slices.Reverse(turned)
			if got := members(l.Back(c.from, c.to)); got != string(turned) {
				t.Errorf("Back(%d, %d) is %s, not %s", c.from, c.to, got, turned)
			}
		}
		checkMembers(t, l, "abcdef")
	}
}

// P10.2: the same places cut, what is left, and how many these were.
func TestCut(t *testing.T) {
	for _, levels := range [][]int{{1, 1, 1, 1, 1, 1}, {32, 32, 32, 32, 32, 32}, {1, 3, 1, 5, 1, 2}, {6, 5, 4, 3, 2, 1}, {1, 2, 3, 4, 5, 6}} {
		for _, c := range ranges() {
			l := letters(t, levels...)
			left := strings.Replace("abcdef", c.want, "", 1)
			checkCut(t, l, c.from, c.to, len(c.want))
			checkMembers(t, l, left)
			for at := range levels {
				member := string(rune('a' + at))
				checkSeek(t, l, entry(member, 0), seekIn(left, member), strings.Contains(left, member))
			}
			for _, r := range c.want {
				checkDelete(t, l, entry(string(r), 0), false)
				checkInsert(t, l, entry(string(r), 0), levels[r-'a'], api.OK)
			}
			checkMembers(t, l, "abcdef")
			checkLevels(t, l, slices.Max(levels))
		}
	}
}

// seekIn is how many of the letters stand ahead of one.
func seekIn(letters string, member string) int {
	n := 0
	for at := range len(letters) {
		if letters[at:at+1] < member {
			n++
		}
	}
	return n
}

// P10.2: cut piece by piece, from each side and from the middle, until nothing is left.
func TestCutAll(t *testing.T) {
	for _, cut := range [][2]int{{0, 1}, {0, 3}, {2, 5}, {1, 2}, {-3, 2}, {4, 9}, {3, math.MaxInt}, {math.MinInt, 1}} {
		b := newBoth(t)
		for at := range 40 {
			b.insert(entry(fmt.Sprint(at%3), int64(at%7)*3+int64(at)), at*at%9+1)
		}
		for range 50 {
			b.cut(cut[0], cut[1])
			b.sought()
			b.spans()
		}
		b.all()
		b.cut(0, 40)
		b.all()
	}
}

// P10.2: the greatest level is that of what is there, not of what was.
func TestLevels(t *testing.T) {
	l := skip.New()
	checkLevels(t, l, 0)
	for _, c := range []struct {
		member string
		level  int
		want   int
	}{{"d", 1, 1}, {"b", 3, 3}, {"f", 2, 3}, {"a", 32, 32}, {"c", 31, 32}, {"e", 32, 32}} {
		checkInsert(t, l, entry(c.member, 0), c.level, api.OK)
		checkLevels(t, l, c.want)
	}
	for _, c := range []struct {
		member string
		want   int
	}{{"a", 32}, {"e", 31}, {"c", 3}, {"f", 3}, {"f", 3}, {"b", 1}, {"d", 0}, {"d", 0}} {
		l.Delete(entry(c.member, 0))
		checkLevels(t, l, c.want)
	}
	l = letters(t, 2, 7, 4, 7, 1, 3)
	for _, c := range []struct{ from, to, want int }{{1, 1, 7}, {1, 2, 7}, {2, 4, 4}, {1, 2, 3}, {1, 2, 2}, {5, 9, 2}, {0, 1, 0}} {
		l.Cut(c.from, c.to)
		checkLevels(t, l, c.want)
	}
	checkInsert(t, l, entry("a", 0), 0, api.ErrArg)
	checkInsert(t, l, entry("a", 0), 33, api.ErrArg)
	checkLevels(t, l, 0)
	checkInsert(t, l, entry("a", 0), 2, api.OK)
	checkInsert(t, l, entry("a", 0), 9, api.ErrSkip)
	checkLevels(t, l, 2)
}

// P10.2: the spans of each level, also behind which others stand, as what is about them comes and goes.
func TestSpans(t *testing.T) {
	l := letters(t, 1, 3, 1, 1, 2, 1, 1)
	checkAllSpans(t, l, []int{1, 1, 1, 1, 1, 1, 1}, []int{2, 3}, []int{2})
	checkInsert(t, l, entry("bb", 0), 1, api.OK)
	checkAllSpans(t, l, []int{1, 1, 1, 1, 1, 1, 1, 1}, []int{2, 4}, []int{2})
	checkInsert(t, l, entry("cc", 0), 4, api.OK)
	checkAllSpans(t, l, []int{1, 1, 1, 1, 1, 1, 1, 1, 1}, []int{2, 3, 2}, []int{2, 3}, []int{5})
	checkInsert(t, l, entry("", 0), 1, api.OK)
	checkAllSpans(t, l, []int{1, 1, 1, 1, 1, 1, 1, 1, 1, 1}, []int{3, 3, 2}, []int{3, 3}, []int{6})
	checkInsert(t, l, entry("h", 0), 3, api.OK)
	checkAllSpans(t, l, []int{1, 1, 1, 1, 1, 1, 1, 1, 1, 1, 1}, []int{3, 3, 2, 3}, []int{3, 3, 5}, []int{6})
	checkDelete(t, l, entry("b", 0), true)
	checkAllSpans(t, l, []int{1, 1, 1, 1, 1, 1, 1, 1, 1, 1}, []int{5, 2, 3}, []int{5, 5}, []int{5})
	checkDelete(t, l, entry("f", 0), true)
	checkAllSpans(t, l, []int{1, 1, 1, 1, 1, 1, 1, 1, 1}, []int{5, 2, 2}, []int{5, 4}, []int{5})
	checkCut(t, l, 1, 4, 3)
	checkAllSpans(t, l, []int{1, 1, 1, 1, 1, 1}, []int{2, 2, 2}, []int{2, 4}, []int{2})
	checkCut(t, l, 3, 5, 2)
	checkAllSpans(t, l, []int{1, 1, 1, 1}, []int{2, 2}, []int{2, 2}, []int{2})
	checkDelete(t, l, entry("cc", 0), true)
	checkAllSpans(t, l, []int{1, 1, 1}, []int{3}, []int{3})
	checkInsert(t, l, entry("z", 0), 1, api.OK)
	checkAllSpans(t, l, []int{1, 1, 1, 1}, []int{3}, []int{3})
	checkCut(t, l, 2, 3, 1)
	checkAllSpans(t, l, []int{1, 1, 1})
}

// checkAllSpans holds the spans of the levels from 1 on, and none of those beyond.
func checkAllSpans(t *testing.T, l *skip.List, spans ...[]int) {
	t.Helper()
	checkLevels(t, l, len(spans))
	for level, want := range spans {
		checkSpans(t, l, level+1, want...)
	}
	for level := len(spans) + 1; level <= 34; level++ {
		checkSpans(t, l, level)
	}
	checkSpans(t, l, 0)
	checkSpans(t, l, -1)
}

// P10.2: of the greatest level there are spans, of the levels beside 1 to 32 there are none.
func TestSpansLevels(t *testing.T) {
	l := letters(t, 1, 32, 31, 1, 32)
	checkSpans(t, l, 1, 1, 1, 1, 1, 1)
	checkSpans(t, l, 2, 2, 1, 2)
	checkSpans(t, l, 31, 2, 1, 2)
	checkSpans(t, l, 32, 2, 3)
	for _, level := range []int{0, 33, -1, 34, -32, 1 << 32, 1<<32 + 1, -1<<32 + 1, math.MinInt32, math.MaxInt32, math.MinInt, math.MaxInt} {
		checkSpans(t, l, level)
	}
}

// P10.1, P10.2: a nil list.
func TestNil(t *testing.T) {
	b := both{t, nil, &model{}}
	for level := -1; level <= 34; level++ {
		checkInsert(t, nil, entry("a", 1), level, api.ErrNil)
	}
	for _, e := range []api.Entry{{}, entry("a", 1), entry("", least), entry("\xff", most)} {
		checkDelete(t, nil, e, false)
		checkSeek(t, nil, e, 0, false)
	}
	for _, from := range b.places() {
		for _, to := range b.places() {
			checkCut(t, nil, from, to, 0)
		}
	}
	b.all()
}

// entriesOf are entries of few members and scores, so that many have one or the other in common.
func entriesOf(random *rand.Rand) api.Entry {
	members := []string{"", "\x00", "a", "a\x00", "ab", "b", "\x7f", "\x80", "é", "\xff", "\xff\xff"}
	scores := []int64{least, -10, -9, -1, 0, 1, 9, 10, most}
	return entry(members[random.IntN(len(members))], scores[random.IntN(len(scores))])
}

// change does one thing or another, mostly such that is right.
func (b both) change(random *rand.Rand, level int) {
	b.t.Helper()
	n := len(b.m.entries)
	switch random.IntN(12) {
	case 0, 1, 2:
		b.delete(entriesOf(random))
	case 3:
		if n > 0 {
			b.delete(b.m.entries[random.IntN(n)])
		}
	case 4:
		from := random.IntN(n+4) - 2
		b.cut(from, from+random.IntN(5)-1)
	case 5:
		if random.IntN(20) == 0 {
			b.cut(random.IntN(n+2)-1, random.IntN(n+2))
		}
	default:
		b.insert(entriesOf(random), level)
	}
}

// P10.1, P10.2: lists that are changed many times, of levels of all kinds.
func TestModel(t *testing.T) {
	for name, level := range levelsOf() {
		t.Run(name, func(t *testing.T) {
			random := rand.New(rand.NewPCG(10, 1))
			b := newBoth(t)
			for n := range 3000 {
				b.change(random, level(random, n))
				b.spans()
				if n%4 == 0 {
					b.sought()
				}
				if n%40 == 0 {
					b.all()
				}
				if t.Failed() {
					t.Fatalf("behind %d changes", n+1)
				}
			}
		})
	}
}

// levelsOf are ways to give levels.
func levelsOf() map[string]func(random *rand.Rand, n int) int {
	return map[string]func(random *rand.Rand, n int) int{
		"one":      func(*rand.Rand, int) int { return 1 },
		"greatest": func(*rand.Rand, int) int { return 32 },
		"rising":   func(_ *rand.Rand, n int) int { return n%32 + 1 },
		"any":      func(random *rand.Rand, _ int) int { return random.IntN(32) + 1 },
		"wrong":    func(random *rand.Rand, _ int) int { return random.IntN(36) - 1 },
		"halved": func(random *rand.Rand, _ int) int {
			level := 1
			for level < 32 && random.IntN(2) == 0 {
				level++
			}
			return level
		},
	}
}

// P10.3: the same is done to lists of all kinds of levels: each tells the same, but for levels and spans.
func TestLevelsTellNothing(t *testing.T) {
	ways := levelsOf()
	delete(ways, "wrong")
	for seed := range uint64(20) {
		told := map[string]string{}
		for name, level := range ways {
			told[name] = tell(seed, level)
		}
		for name := range ways {
			if told[name] != told["one"] {
				t.Errorf("with the levels %s another thing is told than with one level (seed %d)", name, seed)
			}
		}
	}
}

// tell writes down what a list tells while it is changed; the levels come from draws of their own, so that all else is the same.
func tell(seed uint64, level func(random *rand.Rand, n int) int) string {
	random, draws := rand.New(rand.NewPCG(seed, 10)), rand.New(rand.NewPCG(seed, 11))
	l := skip.New()
	var s strings.Builder
	for n := range 300 {
		e, from, size := entriesOf(random), random.IntN(60)-5, random.IntN(12)-2
		switch random.IntN(8) {
		case 0, 1:
			fmt.Fprintln(&s, l.Delete(e))
		case 2:
			fmt.Fprintln(&s, l.Cut(from, from+size))
		default:
			fmt.Fprintln(&s, l.Insert(e, level(draws, n)))
		}
		place, there := l.Seek(entriesOf(random))
		at, is := l.At(from)
		fmt.Fprintln(&s, l.Len(), place, there, at, is, l.Range(from, from+size), l.Back(from, from+size))
	}
	fmt.Fprintln(&s, l.Range(0, l.Len()), l.Back(0, l.Len()))
	return s.String()
}

// P10.3: what is at a place is sought at that place, and what is sought is told at it, in a long list.
func TestLong(t *testing.T) {
	random := rand.New(rand.NewPCG(10, 2))
	b := newBoth(t)
	level := levelsOf()["halved"]
	for n := range 3000 {
		b.insert(entry(fmt.Sprint(n), random.Int64N(500)-250), level(random, n))
	}
	for round := range 4 {
		for at, e := range b.l.Range(0, b.l.Len()) {
			checkAt(t, b.l, at, e, true)
			checkSeek(t, b.l, e, at, true)
		}
		checkEntries(t, "Range of all", b.l.Range(0, b.l.Len()), b.m.entries)
		checkEntries(t, "Back of all", b.l.Back(0, b.l.Len()), b.m.turned(0, b.l.Len()))
		b.spans()
		b.cut(round*100, round*100+500)
	}
}

// R3: what is answered may be changed, and its spare room, and is shared by no two answers.
func TestAnswersAreNew(t *testing.T) {
	l := letters(t, 1, 3, 1, 5, 1, 2)
	overwrite := func(entries []api.Entry) {
		entries = entries[:cap(entries)]
		for at := range entries {
			entries[at] = entry("x", 99)
		}
	}
	forth, again, back, turned := l.Range(1, 5), l.Range(1, 5), l.Back(1, 5), l.Back(0, 6)
	overwrite(forth)
	overwrite(back)
	if members(again) != "bcde" || members(turned) != "fedcba" {
		t.Errorf("two answers share what they tell: %v, %v", again, turned)
	}
	spans, others := l.Spans(2), l.Spans(2)
	spans = spans[:cap(spans)]
	for at := range spans {
		spans[at] = 99
	}
	if !slices.Equal(others, []int{2, 2, 2}) {
		t.Errorf("two answers share their spans: %v", others)
	}
	checkMembers(t, l, "abcdef")
	checkSpans(t, l, 2, 2, 2, 2)
	checkInsert(t, l, entry("cc", 0), 2, api.OK)
	if members(again) != "bcde" || members(turned) != "fedcba" || !slices.Equal(others, []int{2, 2, 2}) {
		t.Error("a later call changes what was answered")
	}
}

// The chapter's example.
func TestExamples(t *testing.T) {
	l := skip.New()
	checkInsert(t, l, entry("a", 1), 1, api.OK)
	checkInsert(t, l, entry("b", 1), 2, api.OK)
	checkInsert(t, l, entry("c", 0), 1, api.OK)
	checkMembers(t, l, "cab")
	checkSpans(t, l, 2, 3)
}
