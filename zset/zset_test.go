package zset_test

import (
	"fmt"
	"math"
	"math/rand/v2"
	"slices"
	"strings"
	"testing"

	"palio/api"
	"palio/dict"
	"palio/pack"
	"palio/scan"
	"palio/zset"
)

const (
	least = math.MinInt64
	most  = math.MaxInt64
)

// mostCalls is more than a scan of 400 keys may take.
const mostCalls = 5000

var (
	packs = api.Limits{Entries: 200, Member: 64}
	lists = api.Limits{}
)

// model goes by the document's words: a plain list of entries in their order, and whether the set is a list.
type model struct {
	entries []api.Entry
	limits  api.Limits
	listed  bool
}

func newModel(limits api.Limits) *model {
	bounded := func(n int, most int) int {
		switch {
		case n < 0:
			return 0
		case n > most:
			return most
		}
		return n
	}
	return &model{limits: api.Limits{Entries: bounded(limits.Entries, 200), Member: bounded(limits.Member, 64)}}
}

// stands holds scores against each other, of one score the members' bytes.
func stands(a api.Entry, b api.Entry) int {
	switch {
	case a.Score < b.Score:
		return -1
	case a.Score > b.Score:
		return 1
	}
	return strings.Compare(a.Member, b.Member)
}

// rank is the place of a member, or -1.
func (m *model) rank(member string) int {
	for at, e := range m.entries {
		if e.Member == member {
			return at
		}
	}
	return -1
}

func (m *model) add(member string, score int64, level int) (bool, api.Errno) {
	isNew := m.rank(member) < 0
	switch {
	case len(member) > 64 || level < 1 || level > 32:
		return false, api.ErrArg
	case isNew && len(m.entries) == 400:
		return false, api.ErrFull
	}
	m.remove(member)
	place := 0
	for place < len(m.entries) && stands(m.entries[place], entry(member, score)) < 0 {
		place++
	}
	m.entries = slices.Insert(m.entries, place, entry(member, score))
	m.listed = m.listed || len(m.entries) > m.limits.Entries || len(member) > m.limits.Member
	return isNew, api.OK
}

func (m *model) remove(member string) bool {
	at := m.rank(member)
	return at >= 0 && m.cut(at, at+1) == 1
}

// part asks of each place whether it is one of the range.
func (m *model) part(from int, to int) []api.Entry {
	var l []api.Entry
	for at, e := range m.entries {
		if from <= at && at < to {
			l = append(l, e)
		}
	}
	return l
}

func (m *model) cut(from int, to int) int {
	var left []api.Entry
	for at, e := range m.entries {
		if at < from || at >= to {
			left = append(left, e)
		}
	}
	n := len(m.entries) - len(left)
	m.entries = left
	return n
}

// notBelow and notAbove ask an end of scores whether it lets a score in.
func notBelow(n int64, from api.Bound) bool {
	switch {
	case from.Inf != 0:
		return from.Inf < 0
	case from.Out:
		return n > from.N
	}
	return n >= from.N
}

func notAbove(n int64, to api.Bound) bool {
	switch {
	case to.Inf != 0:
		return to.Inf > 0
	case to.Out:
		return n < to.N
	}
	return n <= to.N
}

func (m *model) between(from api.Bound, to api.Bound) (int, int) {
	a := 0
	for _, e := range m.entries {
		if !notBelow(e.Score, from) {
			a++
		}
	}
	b := a
	for at, e := range m.entries {
		if at >= a && notBelow(e.Score, from) && notAbove(e.Score, to) {
			b = at + 1
		}
	}
	return a, b
}

func (m *model) members(from api.Edge, to api.Edge) []api.Entry {
	var l []api.Entry
	for _, e := range m.entries {
		low := e.Member > from.S || e.Member == from.S && !from.Out
		if from.Inf != 0 {
			low = from.Inf < 0
		}
		high := e.Member < to.S || e.Member == to.S && !to.Out
		if to.Inf != 0 {
			high = to.Inf > 0
		}
		if low && high {
			l = append(l, e)
		}
	}
	return l
}

func (m *model) encoding() string {
	if m.listed {
		return "skiplist"
	}
	return "listpack"
}

func (m *model) bytes() int {
	n := 2
	if m.listed {
		n = 0
	}
	for _, e := range m.entries {
		if m.listed {
			n += 64 + 2*len(e.Member)
		} else {
			n += 1 + len(e.Member) + 8 + 1
		}
	}
	return n
}

func entry(member string, score int64) api.Entry { return api.Entry{Member: member, Score: score} }

// at, past are ends of scores; from the members' ones are edge, behind.
func at(n int64) api.Bound { return api.Bound{N: n} }

func past(n int64) api.Bound { return api.Bound{N: n, Out: true} }

func edge(s string) api.Edge { return api.Edge{S: s} }

func behind(s string) api.Edge { return api.Edge{S: s, Out: true} }

// both are a set and its model, to which the same is done.
type both struct {
	t *testing.T
	s *zset.Set
	m *model
}

func newBoth(t *testing.T, limits api.Limits, seed uint32) both {
	return both{t, zset.New(limits, seed), newModel(limits)}
}

func (b both) add(member string, score int64, level int) {
	b.t.Helper()
	isNew, e := b.s.Add(member, score, level)
	wantNew, want := b.m.add(member, score, level)
	if isNew != wantNew || e != want {
		b.t.Errorf("Add(%.80q, %d, %d) is %t, %d, not %t, %d", member, score, level, isNew, e, wantNew, want)
	}
	b.size()
}

func (b both) remove(member string) {
	b.t.Helper()
	if got, want := b.s.Remove(member), b.m.remove(member); got != want {
		b.t.Errorf("Remove(%.80q) is %t", member, got)
	}
	b.size()
}

func (b both) cut(from int, to int) {
	b.t.Helper()
	if got, want := b.s.Cut(from, to), b.m.cut(from, to); got != want {
		b.t.Errorf("Cut(%d, %d) is %d, not %d", from, to, got, want)
	}
	b.size()
}

// size holds how many entries there are, in what form, of how many bytes.
func (b both) size() {
	b.t.Helper()
	if n := b.s.Len(); n != len(b.m.entries) {
		b.t.Errorf("there are %d entries, not %d", n, len(b.m.entries))
	}
	if got, want := b.s.Encoding(), b.m.encoding(); got != want {
		b.t.Errorf("it is a %s, not a %s", got, want)
	}
	if got, want := b.s.Bytes(), b.m.bytes(); got != want {
		b.t.Errorf("it has %d bytes, not %d", got, want)
	}
}

// one holds what is told of a member.
func (b both) one(member string) {
	b.t.Helper()
	place := b.m.rank(member)
	var want api.Entry
	if place >= 0 {
		want = b.m.entries[place]
	}
	if score, there := b.s.Score(member); score != want.Score || there != (place >= 0) {
		b.t.Errorf("Score(%.80q) is %d, %t, not %d, %t", member, score, there, want.Score, place >= 0)
	}
	if n, there := b.s.Rank(member); n != max(place, 0) || there != (place >= 0) {
		b.t.Errorf("Rank(%.80q) is %d, %t, not %d", member, n, there, place)
	}
}

// each holds what is told of the members that are there, and of some that are next to them.
func (b both) each() {
	b.t.Helper()
	for _, e := range b.m.entries {
		b.one(e.Member)
		b.one(e.Member + "\x00")
	}
	for _, member := range []string{"", "\x00", "none", "\xff\xff", strings.Repeat("x", 65), strings.Repeat("y", 5000)} {
		b.one(member)
	}
}

func (b both) whole() {
	b.t.Helper()
	checkEntries(b.t, "Range of all", b.s.Range(0, len(b.m.entries)), b.m.entries)
}

// places are about all places of a short set, some of a longer one, and such that are far from any.
func (b both) places() []int {
	n := len(b.m.entries)
	l := []int{math.MinInt, math.MinInt + 1, -n - 1, -1, 0, 1, n / 2, n - 1, n, n + 1, 2 * n, math.MaxInt - 1, math.MaxInt}
	if n <= 9 {
		for place := range n {
			l = append(l, place)
		}
	}
	slices.Sort(l)
	return slices.Compact(l)
}

func (b both) ranges() {
	b.t.Helper()
	for _, from := range b.places() {
		for _, to := range b.places() {
			checkEntries(b.t, fmt.Sprintf("Range(%d, %d)", from, to), b.s.Range(from, to), b.m.part(from, to))
		}
	}
}

// some are all entries of a short set, and of a longer one the first one, the last one, and two between.
func (b both) some() []api.Entry {
	n := len(b.m.entries)
	if n <= 9 {
		return b.m.entries
	}
	return []api.Entry{b.m.entries[0], b.m.entries[n/3], b.m.entries[n/2], b.m.entries[n-1]}
}

// bounds are ends at, and next to, some scores, and beyond all.
func (b both) bounds() []api.Bound {
	l := []api.Bound{{Inf: -1}, {Inf: 1}, {Inf: -7, N: 3, Out: true}, {Inf: 9, N: -3, Out: true}, at(least), past(least), at(most), past(most)}
	for _, e := range b.some() {
		l = append(l, at(e.Score), past(e.Score))
		if e.Score > least && e.Score < most {
			l = append(l, at(e.Score-1), past(e.Score+1))
		}
	}
	return l
}

func (b both) betweens() {
	b.t.Helper()
	bounds := b.bounds()
	for _, from := range bounds {
		for _, to := range bounds {
			wantFrom, wantTo := b.m.between(from, to)
			checkBetween(b.t, b.s, from, to, wantFrom, wantTo)
		}
	}
}

// edges are ends at, and next to, some members, and beyond all.
func (b both) edges() []api.Edge {
	l := []api.Edge{{Inf: -1}, {Inf: 1}, {Inf: -7, S: "b", Out: true}, {Inf: 9, S: "b", Out: true}, edge(""), behind(""), edge("\xff")}
	for _, e := range b.some() {
		l = append(l, edge(e.Member), behind(e.Member))
	}
	return l
}

func (b both) memberRanges() {
	b.t.Helper()
	edges := b.edges()
	for _, from := range edges {
		for _, to := range edges {
			checkEntries(b.t, fmt.Sprintf("Members(%v, %v)", from, to), b.s.Members(from, to), b.m.members(from, to))
		}
	}
}

// scanned holds a scan from 0 until 0: without changes each entry is told once.
func (b both) scanned() {
	b.t.Helper()
	told := scanAll(b.t, b.s)
	if !b.m.listed {
		checkEntries(b.t, "Scan of a pack", told, b.m.entries)
	}
	slices.SortFunc(told, stands)
	checkEntries(b.t, "Scan of all, in order", told, b.m.entries)
}

// all holds what every call tells that changes nothing.
func (b both) all() {
	b.t.Helper()
	b.size()
	b.each()
	b.ranges()
	b.betweens()
	b.memberRanges()
	b.scanned()
	b.size()
}

func scanAll(t *testing.T, s *zset.Set) []api.Entry {
	t.Helper()
	told, cursor := s.Scan(0)
	for calls := 0; cursor != 0; calls++ {
		if calls == mostCalls {
			t.Fatal("a scan doesn't come back to 0")
		}
		var more []api.Entry
		more, cursor = s.Scan(cursor)
		told = append(told, more...)
	}
	return told
}

func checkEntries(t *testing.T, call string, got []api.Entry, want []api.Entry) {
	t.Helper()
	if !slices.Equal(got, want) {
		t.Errorf("%s is %.300q, not %.300q", call, fmt.Sprint(got), fmt.Sprint(want))
	}
}

func checkBetween(t *testing.T, s *zset.Set, from api.Bound, to api.Bound, wantFrom int, wantTo int) {
	t.Helper()
	if a, b := s.Between(from, to); a != wantFrom || b != wantTo {
		t.Errorf("Between(%v, %v) is %d, %d, not %d, %d", from, to, a, b, wantFrom, wantTo)
	}
}

func checkAdd(t *testing.T, s *zset.Set, e api.Entry, level int, wantNew bool, want api.Errno) {
	t.Helper()
	if isNew, err := s.Add(e.Member, e.Score, level); isNew != wantNew || err != want {
		t.Errorf("Add(%.80q, %d, %d) is %t, %d, not %t, %d", e.Member, e.Score, level, isNew, err, wantNew, want)
	}
}

func checkForm(t *testing.T, s *zset.Set, encoding string, bytes int) {
	t.Helper()
	if s.Encoding() != encoding || s.Bytes() != bytes {
		t.Errorf("it is a %s of %d bytes, not a %s of %d", s.Encoding(), s.Bytes(), encoding, bytes)
	}
}

// forms does a test with sets that are packs, with sets that are lists, and with such that become lists on the way.
func forms(t *testing.T, test func(t *testing.T, limits api.Limits)) {
	for name, limits := range map[string]api.Limits{
		"packs":     packs,
		"lists":     lists,
		"of three":  {Entries: 3, Member: 64},
		"of a byte": {Entries: 200, Member: 1},
	} {
		t.Run(name, func(t *testing.T) { test(t, limits) })
	}
}

// name is a member of its own for each number.
func name(n int) string { return fmt.Sprintf("m%03d", n) }

// filled has so many members, of scores that go to and fro.
func filled(t *testing.T, limits api.Limits, seed uint32, n int) both {
	t.Helper()
	b := newBoth(t, limits, seed)
	for k := range n {
		b.add(name(k), int64(k*7%31-15), k%32+1)
	}
	return b
}

// P11.1, P11.2, P11.3: an empty set, whatever its limits: it is a pack of none.
func TestEmpty(t *testing.T) {
	for _, limits := range []api.Limits{packs, lists, {Entries: -1, Member: -1}, {Entries: 1000, Member: 1000}, {Entries: math.MinInt, Member: math.MinInt}, {Entries: math.MaxInt, Member: math.MaxInt}} {
		b := newBoth(t, limits, 7)
		checkForm(t, b.s, "listpack", 2)
		b.remove("")
		b.remove("a")
		for _, from := range b.places() {
			for _, to := range b.places() {
				b.cut(from, to)
			}
		}
		b.all()
		checkForm(t, b.s, "listpack", 2)
	}
	if zset.New(packs, 0) == zset.New(packs, 0) {
		t.Error("New answers one set twice")
	}
}

// R4, P11.3: each call of a nil set.
func TestNil(t *testing.T) {
	var s *zset.Set
	for _, level := range []int{0, 1, 32, 33} {
		checkAdd(t, s, entry("a", 1), level, false, api.ErrNil)
		checkAdd(t, s, entry(strings.Repeat("x", 65), 1), level, false, api.ErrNil)
	}
	if s.Remove("a") || s.Remove("") {
		t.Error("Remove")
	}
	if score, there := s.Score("a"); score != 0 || there {
		t.Error("Score", score, there)
	}
	if place, there := s.Rank("a"); place != 0 || there {
		t.Error("Rank", place, there)
	}
	if s.Len() != 0 || s.Cut(0, 1) != 0 || s.Cut(math.MinInt, math.MaxInt) != 0 {
		t.Error("Len, Cut")
	}
	checkEntries(t, "Range", s.Range(0, 1), nil)
	checkEntries(t, "Range", s.Range(math.MinInt, math.MaxInt), nil)
	checkBetween(t, s, api.Bound{Inf: -1}, api.Bound{Inf: 1}, 0, 0)
	checkBetween(t, s, api.Bound{Inf: 1}, api.Bound{Inf: -1}, 0, 0)
	checkEntries(t, "Members", s.Members(api.Edge{Inf: -1}, api.Edge{Inf: 1}), nil)
	checkForm(t, s, "", 0)
	for _, cursor := range []uint32{0, 1, math.MaxUint32} {
		if told, next := s.Scan(cursor); len(told) != 0 || next != 0 {
			t.Error("Scan", told, next)
		}
	}
}

// P11.1: a set's entries are no other one's.
func TestTwoSets(t *testing.T) {
	forms(t, func(t *testing.T, limits api.Limits) {
		a, b := filled(t, limits, 1, 5), filled(t, limits, 1, 5)
		a.remove(name(2))
		a.add(name(3), 99, 1)
		a.add("other", 1, 1)
		b.all()
		b.cut(0, 5)
		a.all()
		b.all()
	})
}

// P11.1: a new member, one that is there with its score, and with another one.
func TestAdd(t *testing.T) {
	forms(t, func(t *testing.T, limits api.Limits) {
		s := zset.New(limits, 3)
		for _, c := range []struct {
			member string
			score  int64
			isNew  bool
			want   []api.Entry
		}{
			{"b", 2, true, []api.Entry{entry("b", 2)}},
			{"b", 2, false, []api.Entry{entry("b", 2)}},
			{"a", 2, true, []api.Entry{entry("a", 2), entry("b", 2)}},
			{"c", -1, true, []api.Entry{entry("c", -1), entry("a", 2), entry("b", 2)}},
			{"a", 3, false, []api.Entry{entry("c", -1), entry("b", 2), entry("a", 3)}},
			{"a", -1, false, []api.Entry{entry("a", -1), entry("c", -1), entry("b", 2)}},
			{"b", most, false, []api.Entry{entry("a", -1), entry("c", -1), entry("b", most)}},
			{"b", least, false, []api.Entry{entry("b", least), entry("a", -1), entry("c", -1)}},
			{"", -1, true, []api.Entry{entry("b", least), entry("", -1), entry("a", -1), entry("c", -1)}},
			{"a", 0, false, []api.Entry{entry("b", least), entry("", -1), entry("c", -1), entry("a", 0)}},
			{"ab", 0, true, []api.Entry{entry("b", least), entry("", -1), entry("c", -1), entry("a", 0), entry("ab", 0)}},
			{"a\x00", 0, true, []api.Entry{entry("b", least), entry("", -1), entry("c", -1), entry("a", 0), entry("a\x00", 0), entry("ab", 0)}},
			{"\xff", 0, true, []api.Entry{entry("b", least), entry("", -1), entry("c", -1), entry("a", 0), entry("a\x00", 0), entry("ab", 0), entry("\xff", 0)}},
			{"", 0, false, []api.Entry{entry("b", least), entry("c", -1), entry("", 0), entry("a", 0), entry("a\x00", 0), entry("ab", 0), entry("\xff", 0)}},
			{"", 0, false, []api.Entry{entry("b", least), entry("c", -1), entry("", 0), entry("a", 0), entry("a\x00", 0), entry("ab", 0), entry("\xff", 0)}},
		} {
			checkAdd(t, s, entry(c.member, c.score), 2, c.isNew, api.OK)
			checkEntries(t, "Range of all", s.Range(0, 9), c.want)
			if s.Len() != len(c.want) {
				t.Errorf("there are %d entries, not %d", s.Len(), len(c.want))
			}
		}
	})
}

// P11.1: members of up to 64 bytes, whatever they are of.
func TestAddLong(t *testing.T) {
	forms(t, func(t *testing.T, limits api.Limits) {
		b := newBoth(t, limits, 3)
		for _, size := range []int{64, 65, 63, 66, 0, 1, 128, 255, 256, 257, 300, 320, 5000, 1 << 16} {
			b.add(strings.Repeat("x", size), 5, 1)
			b.whole()
			b.add(strings.Repeat("\xff", size), -5, 32)
			b.whole()
			b.add(strings.Repeat("\x00", size), 0, 2)
			b.whole()
		}
		// Bytes are counted, not characters.
		b.add(strings.Repeat("é", 32), 1, 1)
		b.add(strings.Repeat("é", 33), 1, 1)
		b.add(strings.Repeat("é", 32)+"a", 1, 1)
		b.all()
	})
}

// P11.1: each level is taken, from the least to the greatest one, and none beside, whether the member is there or not.
func TestAddLevels(t *testing.T) {
	forms(t, func(t *testing.T, limits api.Limits) {
		b := newBoth(t, limits, 3)
		for level := 1; level <= 32; level++ {
			checkAdd(t, b.s, entry(name(level), 5), level, true, api.OK)
			b.m.add(name(level), 5, level)
			checkAdd(t, b.s, entry(name(level), -int64(level)), 33-level, false, api.OK)
			b.m.add(name(level), -int64(level), 33-level)
		}
		b.all()
		for _, level := range []int{0, 33, -1, 34, -32, 64, 256, 256 + 1, 1 << 32, 1<<32 + 1, -1 << 32, math.MinInt32, math.MaxInt32, math.MinInt, math.MaxInt} {
			checkAdd(t, b.s, entry("new", 5), level, false, api.ErrArg)
			checkAdd(t, b.s, entry(name(1), 5), level, false, api.ErrArg)
			b.whole()
		}
		b.all()
	})
}

// P11.1: a wrong level or member makes no list of a pack, nor changes a score.
func TestAddWrong(t *testing.T) {
	for _, limits := range []api.Limits{lists, {Entries: 2, Member: 64}, {Entries: 200, Member: 3}, packs} {
		b := newBoth(t, limits, 3)
		b.add("long", 1, 0)
		b.add("long", 1, 33)
		b.add(strings.Repeat("x", 65), 1, 1)
		checkForm(t, b.s, "listpack", 2)
		b.all()
		b.add("a", 1, 1)
		b.add("b", 2, 1)
		b.add("a", 3, 0)
		b.add("a", 3, 33)
		b.add("long", 1, 33)
		b.add(strings.Repeat("x", 65), 1, 33)
		b.add(strings.Repeat("x", 65), 1, 1)
		b.all()
	}
}

// P11.1: the 400th member, the 401st one, and such that are there when there are 400.
func TestFull(t *testing.T) {
	forms(t, func(t *testing.T, limits api.Limits) {
		b := filled(t, limits, 11, 399)
		checkAdd(t, b.s, entry("last", 5), 1, true, api.OK)
		b.m.add("last", 5, 1)
		for _, member := range []string{"more", "", name(400), "las", "last\x00", strings.Repeat("x", 64)} {
			checkAdd(t, b.s, entry(member, 5), 1, false, api.ErrFull)
			checkAdd(t, b.s, entry(member, 5), 33, false, api.ErrArg)
		}
		checkAdd(t, b.s, entry(strings.Repeat("x", 65), 5), 1, false, api.ErrArg)
		b.all()
		for _, member := range []string{"last", name(0), name(200), name(398)} {
			checkAdd(t, b.s, entry(member, -77), 4, false, api.OK)
			b.m.add(member, -77, 4)
			checkAdd(t, b.s, entry(member, -77), 0, false, api.ErrArg)
		}
		b.all()
		b.remove(name(17))
		b.add("more", 5, 1)
		b.add(name(17), 5, 1)
		b.cut(10, 12)
		b.add(name(17), 5, 1)
		b.add("one", 5, 1)
		b.add("two", 5, 1)
		b.all()
	})
}

// R2: an error changes nothing that a scan could tell, either: of two sets alike one is told errors. Their tables shrink and grow, so that a full one is still moving at times.
func TestErrorsUnseen(t *testing.T) {
	a, b := filled(t, lists, 5, 400), filled(t, lists, 5, 400)
	for round, left := range []int{400, 63, 127, 127, 300, 5, 60, 120, 30, 126, 127} {
		for _, twin := range []both{a, b} {
			twin.cut(0, 400-left)
			for k := range 400 - left {
				twin.add(fmt.Sprint(round, "n", k), int64(k), 1)
			}
		}
		there := a.m.entries[7].Member
		for k := range 40 {
			a.add(fmt.Sprint("more", k), 5, 1)
			a.add(there, 5, 33)
			a.add(strings.Repeat("x", 65), 5, 1)
		}
		checkScansAlike(t, a.s, b.s)
	}
}

func checkScansAlike(t *testing.T, a *zset.Set, b *zset.Set) {
	t.Helper()
	for cursor, calls := uint32(0), 0; calls == 0 || cursor != 0 && calls < mostCalls; calls++ {
		got, next := a.Scan(cursor)
		want, wantNext := b.Scan(cursor)
		checkEntries(t, fmt.Sprintf("Scan(%d)", cursor), got, want)
		if next != wantNext {
			t.Errorf("Scan(%d) goes on at %d, not at %d", cursor, next, wantNext)
		}
		cursor = wantNext
	}
}

// P11.1: one that is there, one that is not, the last one, and then Add anew.
func TestRemove(t *testing.T) {
	forms(t, func(t *testing.T, limits api.Limits) {
		for k := range 6 {
			b := filled(t, limits, 3, 6)
			if !b.s.Remove(name(k)) || b.s.Remove(name(k)) {
				t.Errorf("Remove(%q)", name(k))
			}
			b.m.remove(name(k))
			b.all()
			checkAdd(t, b.s, entry(name(k), 8), 3, true, api.OK)
			b.m.add(name(k), 8, 3)
			b.all()
		}
		b := filled(t, limits, 3, 6)
		for _, member := range []string{"", "m", "m00", "m0000", "M001", "m006", "m001\x00", "\xff", strings.Repeat("x", 64), strings.Repeat("x", 65), strings.Repeat("x", 1000)} {
			if b.s.Remove(member) {
				t.Errorf("Remove(%.80q) is true", member)
			}
			b.whole()
		}
		for k := range 6 {
			b.remove(name(k))
			b.all()
		}
		b.remove(name(5))
		b.add(name(5), 1, 1)
		b.add("a", 0, 1)
		b.all()
	})
}

// P11.1: members that are there, at their scores and places, and others.
func TestScoreRank(t *testing.T) {
	forms(t, func(t *testing.T, limits api.Limits) {
		s := zset.New(limits, 3)
		for n, e := range []api.Entry{entry("d", most), entry("a", 1), entry("c", least), entry("b", 1), entry("", 0)} {
			checkAdd(t, s, e, n+1, true, api.OK)
		}
		for _, c := range []struct {
			member string
			score  int64
			place  int
			there  bool
		}{
			{"c", least, 0, true},
			{"", 0, 1, true},
			{"a", 1, 2, true},
			{"b", 1, 3, true},
			{"d", most, 4, true},
			{"e", 0, 0, false},
			{"\x00", 0, 0, false},
			{"aa", 0, 0, false},
			{"A", 0, 0, false},
			{strings.Repeat("a", 64), 0, 0, false},
			{strings.Repeat("a", 65), 0, 0, false},
		} {
			if score, there := s.Score(c.member); score != c.score || there != c.there {
				t.Errorf("Score(%q) is %d, %t", c.member, score, there)
			}
			if place, there := s.Rank(c.member); place != c.place || there != c.there {
				t.Errorf("Rank(%q) is %d, %t", c.member, place, there)
			}
		}
		if s.Len() != 5 {
			t.Errorf("there are %d entries", s.Len())
		}
	})
}

// P11.2: all, parts, places below 0 and above Len, and from above to.
func TestRange(t *testing.T) {
	forms(t, func(t *testing.T, limits api.Limits) {
		s := zset.New(limits, 3)
		l := []api.Entry{entry("b", -3), entry("a", 0), entry("c", 0), entry("", 5), entry("d", 5)}
		for _, n := range []int{3, 0, 4, 2, 1} {
			checkAdd(t, s, l[n], n+1, true, api.OK)
		}
		for _, c := range []struct {
			from, to int
			want     []api.Entry
		}{
			{0, 5, l},
			{0, 1, l[:1]},
			{1, 3, l[1:3]},
			{4, 5, l[4:]},
			{2, 2, nil},
			{3, 1, nil},
			{-1, 2, l[:2]},
			{-3, -1, nil},
			{-1, 0, nil},
			{4, 9, l[4:]},
			{5, 9, nil},
			{math.MinInt, math.MaxInt, l},
			{math.MaxInt, math.MinInt, nil},
			{math.MinInt, 1, l[:1]},
			{4, math.MaxInt, l[4:]},
			{math.MaxInt, math.MaxInt, nil},
			{math.MinInt, math.MinInt, nil},
		} {
			checkEntries(t, fmt.Sprintf("Range(%d, %d)", c.from, c.to), s.Range(c.from, c.to), c.want)
		}
		filled(t, limits, 3, 40).ranges()
	})
}

// P11.2: the same places, cut out; those members are not there any more, and may be added anew.
func TestCut(t *testing.T) {
	forms(t, func(t *testing.T, limits api.Limits) {
		places := newBoth(t, limits, 3).places()
		places = append(places, 2, 3, 4, 5, 6, 7)
		for _, from := range places {
			for _, to := range places {
				b := filled(t, limits, 3, 6)
				b.cut(from, to)
				b.whole()
				b.each()
				for k := range 6 {
					b.one(name(k))
				}
				b.scanned()
				for k := range 6 {
					b.add(name(k), int64(k), k+1)
				}
				b.whole()
				b.cut(0, b.s.Len())
				b.whole()
				b.scanned()
			}
		}
	})
}

// P11.2: ends that are left out and that are not, infinite ones, turned ones, between scores, ahead of all, behind all.
func TestBetween(t *testing.T) {
	below, above := api.Bound{Inf: -1}, api.Bound{Inf: 1}
	forms(t, func(t *testing.T, limits api.Limits) {
		s := zset.New(limits, 3)
		for n, e := range []api.Entry{entry("a", -5), entry("b", 0), entry("c", 0), entry("d", 0), entry("e", 7), entry("f", 9)} {
			checkAdd(t, s, e, n+1, true, api.OK)
		}
		for _, c := range []struct {
			from, to api.Bound
			a, b     int
		}{
			{below, above, 0, 6},
			{above, below, 6, 6},
			{above, above, 6, 6},
			{below, below, 0, 0},
			{at(0), at(0), 1, 4},
			{past(0), at(0), 4, 4},
			{at(0), past(0), 1, 1},
			{past(0), past(0), 4, 4},
			{at(-5), at(9), 0, 6},
			{past(-5), past(9), 1, 5},
			{at(-4), at(-1), 1, 1},
			{at(1), at(6), 4, 4},
			{at(1), at(7), 4, 5},
			{past(6), past(8), 4, 5},
			{at(9), at(-5), 5, 5},
			{at(7), at(0), 4, 4},
			{past(9), at(3), 6, 6},
			{at(10), at(20), 6, 6},
			{at(-20), at(-10), 0, 0},
			{at(-20), at(-5), 0, 1},
			{at(-20), past(-5), 0, 0},
			{at(least), at(most), 0, 6},
			{past(least), past(most), 0, 6},
			{past(most), above, 6, 6},
			{below, past(least), 0, 0},
			{below, past(7), 0, 4},
			{past(7), above, 5, 6},
			{api.Bound{Inf: -3, N: 8, Out: true}, api.Bound{Inf: 2, N: -8, Out: true}, 0, 6},
		} {
			checkBetween(t, s, c.from, c.to, c.a, c.b)
		}
		b := newBoth(t, limits, 3)
		b.add("least", least, 1)
		b.add("most", most, 1)
		b.add("nought", 0, 1)
		b.betweens()
		filled(t, limits, 3, 60).betweens()
	})
}

// P11.2: members of all scores, in the order of these, by ends of all kinds.
func TestMembers(t *testing.T) {
	below, above := api.Edge{Inf: -1}, api.Edge{Inf: 1}
	forms(t, func(t *testing.T, limits api.Limits) {
		s := zset.New(limits, 3)
		c, a, b, none, ab := entry("c", 1), entry("a", 2), entry("b", 2), entry("", 3), entry("ab", 4)
		for n, e := range []api.Entry{ab, none, b, a, c} {
			checkAdd(t, s, e, n+1, true, api.OK)
		}
		for _, one := range []struct {
			from, to api.Edge
			want     []api.Entry
		}{
			{below, above, []api.Entry{c, a, b, none, ab}},
			{above, below, nil},
			{above, above, nil},
			{below, below, nil},
			{edge("a"), edge("b"), []api.Entry{a, b, ab}},
			{behind("a"), edge("b"), []api.Entry{b, ab}},
			{edge("a"), behind("b"), []api.Entry{a, ab}},
			{behind("a"), behind("b"), []api.Entry{ab}},
			{edge("b"), edge("a"), nil},
			{edge("a"), edge("a"), []api.Entry{a}},
			{behind("a"), edge("a"), nil},
			{edge(""), edge(""), []api.Entry{none}},
			{behind(""), above, []api.Entry{c, a, b, ab}},
			{below, behind(""), nil},
			{below, edge(""), []api.Entry{none}},
			{edge("aa"), edge("az"), []api.Entry{ab}},
			{edge("ac"), edge("az"), nil},
			{edge("c"), above, []api.Entry{c}},
			{behind("c"), above, nil},
			{edge("d"), edge("e"), nil},
			{below, behind("c"), []api.Entry{a, b, none, ab}},
			{api.Edge{Inf: -3, S: "z", Out: true}, api.Edge{Inf: 2, S: "", Out: true}, []api.Entry{c, a, b, none, ab}},
		} {
			checkEntries(t, fmt.Sprintf("Members(%v, %v)", one.from, one.to), s.Members(one.from, one.to), one.want)
		}
		filled(t, limits, 3, 60).memberRanges()
	})
}

// P11.3: a pack up to as many entries as the limits say, a list behind these, for ever.
func TestManyEntries(t *testing.T) {
	for _, c := range []struct{ limit, packed int }{{math.MinInt, 0}, {-201, 0}, {-1, 0}, {0, 0}, {1, 1}, {2, 2}, {7, 7}, {199, 199}, {200, 200}, {201, 200}, {256, 200}, {math.MaxInt, 200}} {
		b := newBoth(t, api.Limits{Entries: c.limit, Member: 64}, 9)
		bytes := 2
		for k := range c.packed {
			b.add(name(k), int64(-k), 1)
			bytes += 4 + 10
			checkForm(t, b.s, "listpack", bytes)
		}
		// Scores that change, and members that go and come, make it no list.
		for k := range c.packed {
			b.add(name(k), int64(k), 2)
		}
		if c.packed > 0 {
			b.remove(name(0))
			b.add("zero", 0, 1)
		}
		checkForm(t, b.s, "listpack", bytes)
		b.all()
		b.add("more", 5, 3)
		checkForm(t, b.s, "skiplist", (c.packed+1)*(64+8))
		b.all()
		b.remove("more")
		checkForm(t, b.s, "skiplist", c.packed*(64+8))
		b.cut(0, b.s.Len())
		checkForm(t, b.s, "skiplist", 0)
		b.all()
		b.add("a", 1, 1)
		checkForm(t, b.s, "skiplist", 64+2)
		b.all()
	}
}

// P11.3: a pack up to members of as many bytes as the limits say, a list behind these, for ever.
func TestLongMember(t *testing.T) {
	for _, c := range []struct{ limit, packed int }{{math.MinInt, 0}, {-65, 0}, {-1, 0}, {0, 0}, {1, 1}, {5, 5}, {63, 63}, {64, 64}, {65, 64}, {255, 64}, {math.MaxInt, 64}} {
		b := newBoth(t, api.Limits{Entries: 200, Member: c.limit}, 9)
		b.add("", 3, 1)
		checkForm(t, b.s, "listpack", 2+10)
		b.add(strings.Repeat("x", c.packed), 4, 1)
		b.all()
		if b.s.Encoding() != "listpack" {
			t.Errorf("a member of %d bytes makes a list at %d", c.packed, c.limit)
		}
		b.add(strings.Repeat("x", c.packed+1), -4, 5)
		b.all()
		if c.packed == 64 {
			continue
		}
		if b.s.Encoding() != "skiplist" {
			t.Errorf("a member of %d bytes makes no list at %d", c.packed+1, c.limit)
		}
		b.remove(strings.Repeat("x", c.packed+1))
		b.all()
		b.cut(0, b.s.Len())
		checkForm(t, b.s, "skiplist", 0)
	}
}

// P11.3: both limits count, each by itself; the first member may make a list at once.
func TestBothLimits(t *testing.T) {
	b := newBoth(t, api.Limits{Entries: 2, Member: 3}, 9)
	b.add("abcd", 1, 1)
	checkForm(t, b.s, "skiplist", 64+8)
	b = newBoth(t, api.Limits{Entries: 2, Member: 3}, 9)
	b.add("abc", 1, 1)
	b.add("abd", 1, 1)
	b.add("abc", 2, 1)
	checkForm(t, b.s, "listpack", 2+13+13)
	b.add("", 1, 1)
	checkForm(t, b.s, "skiplist", 3*64+12)
	b.all()
	b = newBoth(t, lists, 9)
	b.add("", 1, 1)
	checkForm(t, b.s, "skiplist", 64)
	b.all()
}

// P11.3: the example of the document.
func TestExample(t *testing.T) {
	s := zset.New(api.Limits{Entries: 2, Member: 64}, 0)
	checkAdd(t, s, entry("a", 1), 1, true, api.OK)
	checkAdd(t, s, entry("b", 0), 1, true, api.OK)
	checkEntries(t, "Range(0, 2)", s.Range(0, 2), []api.Entry{entry("b", 0), entry("a", 1)})
	checkForm(t, s, "listpack", 24)
}

// P11.3: of a pack as many bytes as the pack of its entries has, of a list what its entries count, behind changes of all kinds.
func TestBytes(t *testing.T) {
	forms(t, func(t *testing.T, limits api.Limits) {
		b := newBoth(t, limits, 3)
		check := func() {
			t.Helper()
			b.size()
			if p, e := pack.Pack(b.m.entries); !b.m.listed && (e != api.OK || b.s.Bytes() != len(p)) {
				t.Errorf("it has %d bytes, not %d", b.s.Bytes(), len(p))
			}
		}
		for _, size := range []int{1, 0, 5, 64, 33, 2} {
			b.add(strings.Repeat("x", size), int64(size), 1)
			check()
			b.add(strings.Repeat("x", size), int64(-size), 1)
			check()
		}
		b.remove("xx")
		check()
		b.remove("none")
		check()
		b.cut(1, 3)
		check()
		b.cut(0, 9)
		check()
		b.add("abc", 1, 1)
		check()
	})
}

// P11.3: of a pack all entries, in order, and 0, at any cursor.
func TestScanPack(t *testing.T) {
	for _, n := range []int{0, 1, 5, 200} {
		b := filled(t, packs, 77, n)
		for _, cursor := range []uint32{0, 1, 2, 3, 4, 255, 1 << 16, 1 << 31, math.MaxUint32} {
			told, next := b.s.Scan(cursor)
			checkEntries(t, fmt.Sprintf("Scan(%d)", cursor), told, b.m.entries)
			if next != 0 {
				t.Errorf("Scan(%d) goes on at %d", cursor, next)
			}
		}
	}
}

// dictOf has the members as keys, and its slots moved so many times more.
func dictOf(seed uint32, members []string, steps int) *dict.Dict[int64] {
	d := dict.New[int64](seed)
	for _, member := range members {
		d.Set(member, 0)
	}
	d.Step(steps)
	return d
}

// scores gives keys the scores that they have.
func (m *model) scores(keys []string) []api.Entry {
	var l []api.Entry
	for _, key := range keys {
		l = append(l, m.entries[m.rank(key)])
	}
	return l
}

// P11.3: of a list what is scanned of a dict of its seed; up to four keys never move.
func TestScanFew(t *testing.T) {
	for seed := range uint32(60) {
		for n := range 5 {
			b := newBoth(t, lists, seed*0x01000193)
			b.add("gone", 1, 1)
			b.remove("gone")
			var members []string
			for k := range n {
				members = append(members, name(k))
				b.add(name(k), int64(-k), 1)
			}
			d := dictOf(seed*0x01000193, members, 0)
			for _, cursor := range []uint32{0, 1, 2, 3, 4, 5, 6, 7, 1 << 20, 1<<31 + 2, math.MaxUint32} {
				keys, next := scan.Scan(d, cursor)
				told, at := b.s.Scan(cursor)
				checkEntries(t, fmt.Sprintf("Scan(%d)", cursor), told, b.m.scores(keys))
				if at != next {
					t.Errorf("Scan(%d) goes on at %d, not at %d", cursor, at, next)
				}
			}
		}
	}
}

// P11.3: of more keys likewise, however far they have moved.
func TestScanMany(t *testing.T) {
	for _, n := range []int{5, 8, 9, 12, 33, 64, 65, 130, 257, 300, 400} {
		seed := uint32(n) * 0x9e3779b9
		b := filled(t, lists, seed, n)
		var members []string
		for k := range n {
			members = append(members, name(k))
		}
		var states []*dict.Dict[int64]
		for steps := 0; steps == 0 || moving(states[len(states)-1]); steps++ {
			states = append(states, dictOf(seed, members, steps))
		}
		for cursor, calls := uint32(0), 0; calls == 0 || cursor != 0 && calls < mostCalls; calls++ {
			told, at := b.s.Scan(cursor)
			right := slices.ContainsFunc(states, func(d *dict.Dict[int64]) bool {
				keys, next := scan.Scan(d, cursor)
				return next == at && slices.Equal(told, b.m.scores(keys))
			})
			if !right {
				t.Errorf("of %d keys Scan(%d) is %.200q, %d", n, cursor, fmt.Sprint(told), at)
			}
			cursor = at
		}
	}
}

func moving(d *dict.Dict[int64]) bool {
	_, second, _ := d.Sizes()
	return second > 0
}

// P11.3, T3: a scan from 0 until 0 tells what is there all the time, and nothing that is not there, whatever goes on between.
func TestScanMeanwhile(t *testing.T) {
	forms(t, func(t *testing.T, limits api.Limits) {
		for seed := range uint32(30) {
			r := rand.New(rand.NewPCG(uint64(seed), 8))
			b := filled(t, limits, seed, 10+r.IntN(150))
			stay := map[string]bool{}
			for _, e := range b.m.entries {
				stay[e.Member] = true
			}
			told, cursor := b.s.Scan(0)
			for calls := 0; calls < mostCalls; calls++ {
				for _, e := range told {
					if place := b.m.rank(e.Member); place < 0 || b.m.entries[place] != e {
						t.Errorf("%v is told, and is not there", e)
					}
					delete(stay, e.Member)
				}
				if cursor == 0 {
					break
				}
				for range r.IntN(12) {
					member := name(r.IntN(200))
					if r.IntN(5) < 3 {
						b.remove(member)
						delete(stay, member)
					} else {
						b.add(member, int64(r.IntN(9)), 1)
					}
				}
				told, cursor = b.s.Scan(cursor)
			}
			if len(stay) > 0 || cursor != 0 {
				t.Errorf("%v were there all the time, and were not told; the cursor is %d", stay, cursor)
			}
		}
	})
}

// someAct does to a set, and to its model, what numbers from r choose.
func someAct(b both, r *rand.Rand, members int, level int) {
	b.t.Helper()
	member := name(r.IntN(members))
	switch n := len(b.m.entries); r.IntN(12) {
	case 0, 1, 2, 3, 4:
		b.add(member, int64(r.IntN(21)-10), level)
	case 5:
		b.add(member, []int64{least, least + 1, -1, 0, most - 1, most}[r.IntN(6)], level)
	case 6:
		b.add(strings.Repeat(member[3:], 1+r.IntN(65)), 3, level)
	case 7, 8:
		b.remove(member)
	case 9:
		from := r.IntN(n+3) - 1
		b.cut(from, from+r.IntN(4))
	case 10:
		b.one(member)
	default:
		if n > 0 {
			e := b.m.entries[r.IntN(n)]
			b.add(e.Member, e.Score+int64(r.IntN(3)-1)*int64(r.IntN(2)), level)
		}
	}
}

// P11.1, P11.2, P11.3: sets that are changed many times, held against a plain list.
func TestChanges(t *testing.T) {
	limits := []api.Limits{packs, lists, {Entries: 3, Member: 64}, {Entries: 12, Member: 20}, {Entries: 200, Member: 30}, {Entries: -4, Member: 999}}
	for seed := range uint64(60) {
		r := rand.New(rand.NewPCG(seed, 11))
		b := newBoth(t, limits[seed%uint64(len(limits))], uint32(seed)*77)
		members := 1 + r.IntN(25)
		for range 160 {
			someAct(b, r, members, 1+r.IntN(32))
			b.whole()
			if r.IntN(32) == 0 {
				b.each()
				b.betweens()
				b.memberRanges()
				b.scanned()
			}
		}
		b.all()
	}
}

// P11.1, P11.2, P11.3: likewise sets that grow, become lists, are full, shrink, and grow again.
func TestGreatChanges(t *testing.T) {
	for seed := range uint64(3) {
		r := rand.New(rand.NewPCG(seed, 12))
		b := newBoth(t, []api.Limits{packs, lists, {Entries: 100, Member: 64}}[seed%3], uint32(seed))
		for range 2 {
			for len(b.m.entries) < 400 {
				b.add(name(r.IntN(900)), int64(r.IntN(50)), 1+r.IntN(32))
				if r.IntN(40) == 0 {
					b.whole()
					b.scanned()
				}
			}
			for k := range 900 {
				b.add(name(k), int64(k), 1)
			}
			b.all()
			for len(b.m.entries) > int(seed) {
				b.remove(name(r.IntN(900)))
				if r.IntN(40) == 0 {
					from := r.IntN(len(b.m.entries) + 1)
					b.cut(from, from+r.IntN(30))
					b.whole()
					b.scanned()
				}
			}
			b.all()
		}
	}
}

// P11.4: the same acts at unlike limits, levels and seeds.
func TestAlike(t *testing.T) {
	limits := []api.Limits{packs, lists, {Entries: 5, Member: 64}, {Entries: 200, Member: 7}, {Entries: 40, Member: 63}}
	for run := range uint64(8) {
		var all []both
		var sources []*rand.Rand
		for n, l := range limits {
			all = append(all, newBoth(t, l, uint32(n)*0x01000193))
			sources = append(sources, rand.New(rand.NewPCG(run, 13)))
		}
		for act := range 150 {
			for n, b := range all {
				someAct(b, sources[n], 40, (act*n+n*n)%32+1)
			}
			if act%5 != 0 {
				continue
			}
			first := all[0]
			for _, b := range all[1:] {
				checkEntries(t, "Range of all", b.s.Range(0, 400), first.s.Range(0, 400))
				for _, e := range first.m.entries {
					place, _ := first.s.Rank(e.Member)
					score, _ := first.s.Score(e.Member)
					if n, there := b.s.Rank(e.Member); n != place || !there {
						t.Errorf("Rank(%q) is %d, not %d", e.Member, n, place)
					}
					if n, there := b.s.Score(e.Member); n != score || !there {
						t.Errorf("Score(%q) is %d, not %d", e.Member, n, score)
					}
				}
			}
		}
		for _, b := range all {
			b.all()
		}
	}
}

// R3: what is answered may be changed, and written behind, and no later answer tells it.
func TestAnswersAreNew(t *testing.T) {
	forms(t, func(t *testing.T, limits api.Limits) {
		b := filled(t, limits, 3, 20)
		for _, answer := range []func() []api.Entry{
			func() []api.Entry { return b.s.Range(0, 20) },
			func() []api.Entry { return b.s.Range(3, 9) },
			func() []api.Entry { return b.s.Members(api.Edge{Inf: -1}, api.Edge{Inf: 1}) },
			func() []api.Entry { return b.s.Members(edge(name(3)), edge(name(12))) },
			func() []api.Entry { l, _ := b.s.Scan(0); return l },
			func() []api.Entry { l, _ := b.s.Scan(1); return l },
		} {
			first, kept := answer(), answer()
			want := slices.Clone(kept)
			first = first[:cap(first)]
			for n := range first {
				first[n] = entry("changed", 99)
			}
			checkEntries(t, "another answer", kept, want)
			b.all()
		}
		// What was answered ahead of a change tells what was there then.
		before, want := b.s.Range(0, 20), slices.Clone(b.m.entries)
		members := b.s.Members(api.Edge{Inf: -1}, api.Edge{Inf: 1})
		b.add(name(3), 99, 1)
		b.remove(name(4))
		b.cut(0, 3)
		checkEntries(t, "an answer ahead of changes", before, want)
		checkEntries(t, "an answer ahead of changes", members, want)
	})
}
