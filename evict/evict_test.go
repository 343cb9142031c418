package evict_test

import (
	"fmt"
	"math"
	"math/big"
	"math/rand/v2"
	"slices"
	"strings"
	"testing"

	"palio/api"
	"palio/evict"
	"palio/lfu"
	"palio/space"
	"palio/zset"
)

const mostDraw = math.MaxUint32

// mostSlots is more than a dict of 500 keys may move.
const mostSlots = 100000

// row is a key, how often it is used, at which minute, and how many entries its set has.
type row struct {
	key     string
	count   int
	at      int
	entries int
}

// config is that of sets that are packs, of 2 bytes and 11 for each of these tests' entries; listed is that of lists, of 66 for each.
func config() api.Config { return api.Config{Limits: api.Limits{Entries: 200, Member: 64}} }

func listed() api.Config { return api.Config{Seed: 0xdeadbeef} }

// member is one byte for each of the first numbers.
func member(n int) string { return string(byte('a' + n)) }

// first is the minute at which a key is made: a new one counts 5, and each use lets it rise by one, so that what is to be less must fall a while.
func (r row) first() int {
	if r.count < 5 {
		return r.at - (6 - r.count)
	}
	return r.at
}

// uses are how often it is used at its minute.
func (r row) uses() int {
	if r.count < 5 {
		return 1
	}
	return r.count - 5
}

// build is a space of rows, in whose order the keys are made.
func build(t *testing.T, c api.Config, rows ...row) *space.Space {
	t.Helper()
	s := space.New(c)
	for _, r := range rows {
		set, e := s.Make(r.key, r.first())
		if e != api.OK {
			t.Fatalf("Make(%.80q, %d) is %d", r.key, r.first(), e)
		}
		for n := range r.entries {
			set.Add(member(n), int64(n), 1+n%3)
		}
		for range r.uses() {
			s.Touch(r.key, r.at, 0)
		}
		if use, _ := s.Use(r.key); use != (api.Use{Count: r.count, At: r.at}) {
			t.Fatalf("the use of %.80q is %v, not %d, %d", r.key, use, r.count, r.at)
		}
	}
	return s
}

// same is a space of so many keys, of one byte, with sets of one entry, used alike at the minute 0.
func same(t *testing.T, n int) *space.Space {
	t.Helper()
	return build(t, config(), alike(n)...)
}

func alike(n int) []row {
	var rows []row
	for k := range n {
		rows = append(rows, row{member(k), 5, 0, 1})
	}
	return rows
}

// modelDraw is the n-th draw, of those that are missing, too.
func modelDraw(n int, draws []uint32) uint32 {
	if n < len(draws) {
		return draws[n]
	}
	return 0
}

// modelPlaces are the places of five samples among so many keys, in numbers without ends.
func modelPlaces(keys int, draws []uint32) []int {
	var places []int
	for n := range 5 {
		draw := new(big.Int).SetUint64(uint64(modelDraw(n, draws)))
		places = append(places, int(draw.Mod(draw, big.NewInt(int64(keys))).Int64()))
	}
	return places
}

func modelSamples(keys []string, draws []uint32) []string {
	if len(keys) == 0 {
		return nil
	}
	var samples []string
	for _, place := range modelPlaces(len(keys), draws) {
		samples = append(samples, keys[place])
	}
	return samples
}

// model is what rows become: those that are left, in the order of their keys' bytes.
type model struct {
	c    api.Config
	rows []row
}

func newModel(c api.Config, rows ...row) *model {
	rows = slices.Clone(rows)
	slices.SortFunc(rows, func(a row, b row) int { return strings.Compare(a.key, b.key) })
	return &model{c, rows}
}

func (m *model) keys() []string {
	var keys []string
	for _, r := range m.rows {
		keys = append(keys, r.key)
	}
	return keys
}

func (m *model) size() int {
	n := 64
	for _, r := range m.rows {
		n += 48 + len(r.key)
		if r.entries > 0 && m.c.Limits.Entries == 0 {
			n += 66 * r.entries
		} else {
			n += 2 + 11*r.entries
		}
	}
	return n
}

// choose holds each sample against all that are drawn ahead of it.
func (m *model) choose(now int, draws []uint32) (string, api.Errno) {
	if len(m.rows) == 0 {
		return "", 150
	}
	chosen, fewest := "", 256
	for _, place := range modelPlaces(len(m.rows), draws) {
		r := m.rows[place]
		if now < r.at {
			return "", 130
		}
		count := 0
		if now-r.at < r.count {
			count = r.count - (now - r.at)
		}
		if count < fewest {
			chosen, fewest = r.key, count
		}
	}
	return chosen, 0
}

func (m *model) drop(key string) {
	m.rows = slices.DeleteFunc(m.rows, func(r row) bool { return r.key == key })
}

func (m *model) room(most int, now int, draws []uint32) ([]string, api.Errno) {
	var gone []string
	if most <= 0 {
		return nil, 0
	}
	for n := 0; m.size() > most && len(m.rows) > 0; n += 5 {
		key, e := m.choose(now, draws[min(n, len(draws)):])
		if e != 0 {
			return gone, e
		}
		m.drop(key)
		gone = append(gone, key)
	}
	if m.size() > most {
		return gone, 150
	}
	return gone, 0
}

func few(draws []uint32) []uint32 { return draws[:min(len(draws), 30)] }

func checkSamples(t *testing.T, keys []string, draws []uint32, want ...string) {
	t.Helper()
	if l := evict.Samples(keys, draws); !slices.Equal(l, want) {
		t.Fatalf("Samples(%.300q, %v) is %q, not %q", keys, few(draws), l, want)
	}
}

func checkChoose(t *testing.T, s *space.Space, now int, draws []uint32, want string, wantErr api.Errno) {
	t.Helper()
	if key, e := evict.Choose(s, now, draws); key != want || e != wantErr {
		t.Fatalf("Choose at %d with %v is %q, %d, not %q, %d", now, few(draws), key, e, want, wantErr)
	}
}

func checkRoom(t *testing.T, s *space.Space, most int, now int, draws []uint32, wantErr api.Errno, want ...string) {
	t.Helper()
	if l, e := evict.Room(s, most, now, draws); !slices.Equal(l, want) || e != wantErr {
		t.Fatalf("Room for %d at %d with %v is %.500q, %d, not %.500q, %d", most, now, few(draws), l, e, want, wantErr)
	}
}

func checkKeys(t *testing.T, s *space.Space, want ...string) {
	t.Helper()
	if keys := s.Keys(); !slices.Equal(keys, want) {
		t.Fatalf("the keys are %.500q, not %.500q", keys, want)
	}
}

// checkLeft holds all that a space tells of its keys against a model.
func checkLeft(t *testing.T, s *space.Space, m *model) {
	t.Helper()
	checkKeys(t, s, m.keys()...)
	if s.Len() != len(m.rows) || s.Size() != m.size() {
		t.Fatalf("Len and Size are %d, %d, not %d, %d", s.Len(), s.Size(), len(m.rows), m.size())
	}
	for _, r := range m.rows {
		if u, there := s.Use(r.key); u != (api.Use{Count: r.count, At: r.at}) || !there {
			t.Fatalf("the use of %.80q is %v, %t, not %d, %d", r.key, u, there, r.count, r.at)
		}
		set, _ := s.Find(r.key)
		l := set.Range(0, 400)
		for n, e := range l {
			if e != (api.Entry{Member: member(n), Score: int64(n)}) {
				t.Fatalf("the set of %.80q is %v", r.key, l)
			}
		}
		if len(l) != r.entries {
			t.Fatalf("the set of %.80q has %d entries, not %d", r.key, len(l), r.entries)
		}
	}
}

// checkTwins holds two spaces against each other in the slots of their dicts.
func checkTwins(t *testing.T, a *space.Space, b *space.Space) {
	t.Helper()
	for {
		for cursor := range uint32(130) {
			told, next := a.Scan(cursor)
			want, wantNext := b.Scan(cursor)
			if !slices.Equal(told, want) || next != wantNext {
				t.Fatalf("Scan(%d) is %q, %d, not %q, %d", cursor, told, next, want, wantNext)
			}
		}
		moved, want := a.Step(mostSlots), b.Step(mostSlots)
		if moved != want {
			t.Fatalf("%d slots were left to be moved, not %d", moved, want)
		}
		if moved == 0 {
			return
		}
	}
}

// The document's example: of a, used 5 times, and b, used 3 times, b.
func TestExample(t *testing.T) {
	s := build(t, config(), row{"a", 5, 9, 0}, row{"b", 3, 9, 0})
	checkSamples(t, s.Keys(), []uint32{0, 1, 0, 0, 0}, "a", "b", "a", "a", "a")
	checkChoose(t, s, 9, []uint32{0, 1, 0, 0, 0}, "b", api.OK)
	checkRoom(t, s, s.Size()-1, 9, []uint32{0, 1, 0, 0, 0}, api.OK, "b")
	checkKeys(t, s, "a")
}

// P16.1: no keys have no samples, whatever the draws.
func TestSamplesNone(t *testing.T) {
	for _, draws := range [][]uint32{nil, {}, {0}, {1, 2, 3, 4, 5}, {mostDraw}, make([]uint32, 100)} {
		checkSamples(t, nil, draws)
		checkSamples(t, []string{}, draws)
		checkSamples(t, make([]string, 0, 9), draws)
	}
}

// P16.1: one key is all samples, whatever the draws.
func TestSamplesOne(t *testing.T) {
	for _, key := range []string{"k", "", "a b\x00\xff", strings.Repeat("x", 5000)} {
		for _, draws := range [][]uint32{nil, {}, {0}, {7}, {mostDraw, mostDraw - 1}, {1, 2, 3, 4, 5}, {9, 8, 7, 6, 5, 4, 3}} {
			checkSamples(t, []string{key}, draws, key, key, key, key, key)
		}
	}
}

// P16.1: draws that are missing are 0, those beyond the fifth are not asked.
func TestSamplesDraws(t *testing.T) {
	keys := []string{"a", "b", "c", "d", "e", "f", "g"}
	checkSamples(t, keys, nil, "a", "a", "a", "a", "a")
	checkSamples(t, keys, []uint32{}, "a", "a", "a", "a", "a")
	checkSamples(t, keys, []uint32{3}, "d", "a", "a", "a", "a")
	checkSamples(t, keys, []uint32{1, 6}, "b", "g", "a", "a", "a")
	checkSamples(t, keys, []uint32{5, 4, 3, 2}, "f", "e", "d", "c", "a")
	checkSamples(t, keys, []uint32{6, 5, 4, 3, 2}, "g", "f", "e", "d", "c")
	checkSamples(t, keys, []uint32{6, 5, 4, 3, 2, 1}, "g", "f", "e", "d", "c")
	checkSamples(t, keys, []uint32{2, 2, 1, 2, 2, 5, 5, 5, 5, 5}, "c", "c", "b", "c", "c")
	checkSamples(t, keys, append([]uint32{0, 1, 2, 3, 4}, make([]uint32, 1000)...), "a", "b", "c", "d", "e")
}

// P16.1: draws at the number of keys and above it, up to the greatest one.
func TestSamplesGreatDraws(t *testing.T) {
	keys := []string{"a", "b", "c"}
	checkSamples(t, keys, []uint32{2, 3, 4, 5, 6}, "c", "a", "b", "c", "a")
	// 2^32 - 1 is a multiple of 3.
	checkSamples(t, keys, []uint32{mostDraw, mostDraw - 1, mostDraw - 2, mostDraw - 3, 1 << 31}, "a", "c", "b", "a", "c")
	checkSamples(t, keys[:2], []uint32{mostDraw, 1 << 31, 1<<31 - 1, 1<<31 + 1, 1 << 30}, "b", "a", "b", "b", "a")
	var many []string
	for n := range 500 {
		many = append(many, fmt.Sprint(n))
	}
	checkSamples(t, many, []uint32{499, 500, 501, mostDraw, 1 << 31}, "499", "0", "1", "295", "148")
	for n := range 70 {
		for _, draw := range []uint32{0, 1, uint32(n), uint32(n) + 1, 1<<31 - 1, 1 << 31, 1<<31 + 1, mostDraw - 1, mostDraw} {
			draws := []uint32{draw, draw + 1, draw - 1, draw / 2, draw * 3}
			checkSamples(t, many[:n], draws, modelSamples(many[:n], draws)...)
		}
	}
}

// P16.1: Samples takes keys in the order that it is given them, be it that of their bytes or not, and be they different or not.
func TestSamplesOrder(t *testing.T) {
	draws := []uint32{0, 1, 2, 3, 4}
	checkSamples(t, []string{"d", "a", "c", "", "b"}, draws, "d", "a", "c", "", "b")
	checkSamples(t, []string{"b", "a"}, draws, "b", "a", "b", "a", "b")
	checkSamples(t, []string{"x", "a", "x"}, draws, "x", "a", "x", "x", "a")
	checkSamples(t, []string{"é", "\xff", "\x00", strings.Repeat("x", 65), "\x00"}, draws, "é", "\xff", "\x00", strings.Repeat("x", 65), "\x00")
}

// P16.1: of no keys ErrMemory, of each minute, also where a use could not be of it.
func TestChooseNone(t *testing.T) {
	emptied := same(t, 3)
	for _, key := range emptied.Keys() {
		emptied.Delete(key)
	}
	for _, s := range []*space.Space{space.New(config()), space.New(listed()), emptied} {
		for _, now := range []int{0, 1, -1, math.MinInt, math.MaxInt} {
			for _, draws := range [][]uint32{nil, {0}, {1, 2, 3, 4, 5}, {mostDraw}} {
				checkChoose(t, s, now, draws, "", api.ErrMemory)
			}
		}
	}
}

// P16.1: the least used sample at the minute, not the one that was used least when it was used.
func TestChooseLeast(t *testing.T) {
	s := build(t, config(), row{"a", 9, 0, 0}, row{"b", 2, 10, 0}, row{"c", 7, 8, 0}, row{"d", 255, 10, 0})
	all := []uint32{0, 1, 2, 3}
	// At 10: a 0, b 2, c 5, d 255.
	checkChoose(t, s, 10, all, "a", api.OK)
	checkChoose(t, s, 10, []uint32{1, 2, 3, 1, 2}, "b", api.OK)
	checkChoose(t, s, 10, []uint32{3, 2, 1, 1, 2}, "b", api.OK)
	checkChoose(t, s, 10, []uint32{3, 2, 3, 3, 3}, "c", api.OK)
	checkChoose(t, s, 10, []uint32{3, 3, 3, 3, 2}, "c", api.OK)
	checkChoose(t, s, 10, []uint32{3, 3, 3, 3, 3}, "d", api.OK)
	// At 11: b 1, c 4; at 12: b 0, c 3; from 15 on c 0, too.
	checkChoose(t, s, 12, []uint32{2, 1, 2, 2, 2}, "b", api.OK)
	checkChoose(t, s, 14, []uint32{2, 1, 2, 2, 2}, "b", api.OK)
	checkChoose(t, s, 15, []uint32{2, 1, 2, 2, 2}, "c", api.OK)
	checkChoose(t, s, 15, []uint32{1, 2, 2, 2, 2}, "b", api.OK)
	checkChoose(t, s, math.MaxInt, []uint32{3, 2, 1, 0, 0}, "d", api.OK)

	// What was used less, but later, is used more now.
	s = build(t, config(), row{"few", 3, 20, 0}, row{"many", 20, 1, 0})
	checkChoose(t, s, 20, []uint32{0, 1, 0, 1, 0}, "many", api.OK)
}

// P16.1: of samples of one count the first one of the draws, not of the keys.
func TestChooseFirst(t *testing.T) {
	s := same(t, 6)
	for _, draws := range [][]uint32{{3, 1, 2, 4, 5}, {5, 4, 3, 2, 1}, {1, 0, 0, 0, 0}, {4}, {2, 2}, {0, 5, 5, 5, 5}, {9, 1, 1, 1, 1, 1}} {
		checkChoose(t, s, 0, draws, member(int(draws[0])%6), api.OK)
		checkChoose(t, s, 5, draws, member(int(draws[0])%6), api.OK)
		checkChoose(t, s, 500, draws, member(int(draws[0])%6), api.OK)
	}
	// Of one count at one minute, and not at another.
	s = build(t, config(), row{"a", 9, 4, 0}, row{"b", 7, 2, 0}, row{"c", 10, 5, 0})
	checkChoose(t, s, 5, []uint32{2, 0, 0, 0, 0}, "a", api.OK)
	checkChoose(t, s, 5, []uint32{0, 1, 0, 0, 0}, "b", api.OK)
	s = build(t, config(), row{"a", 9, 4, 0}, row{"b", 8, 3, 0}, row{"c", 10, 5, 0})
	checkChoose(t, s, 5, []uint32{2, 1, 0, 1, 2}, "b", api.OK)
	s = build(t, config(), row{"a", 9, 4, 0}, row{"b", 10, 5, 0}, row{"c", 6, 1, 0}, row{"d", 8, 3, 0}, row{"e", 6, 1, 0})
	checkChoose(t, s, 5, []uint32{1, 0, 2, 4, 3}, "c", api.OK)
	checkChoose(t, s, 5, []uint32{1, 0, 4, 2, 3}, "e", api.OK)
}

// P16.1: one key that is drawn more than once is one, and alone it is chosen, whatever the draws.
func TestChooseAgain(t *testing.T) {
	s := build(t, config(), row{"a", 9, 0, 0}, row{"b", 6, 0, 0}, row{"c", 7, 0, 0})
	checkChoose(t, s, 0, []uint32{0, 0, 0, 0, 0}, "a", api.OK)
	checkChoose(t, s, 0, []uint32{3, 6, 9, 12, mostDraw}, "a", api.OK)
	checkChoose(t, s, 0, []uint32{2, 2, 2, 0, 0}, "c", api.OK)
	checkChoose(t, s, 0, []uint32{0, 0, 2, 2, 1}, "b", api.OK)
	checkChoose(t, s, 0, nil, "a", api.OK)
	one := build(t, config(), row{"", 5, 3, 0})
	for _, draws := range [][]uint32{nil, {0}, {1, 2, 3, 4, 5}, {mostDraw, 1 << 31}} {
		checkChoose(t, one, 3, draws, "", api.OK)
		checkChoose(t, one, 2, draws, "", api.ErrLfu)
	}
}

// P16.1: places are those among the keys in the order of their bytes, not in that in which they were made.
func TestChooseOrder(t *testing.T) {
	keys := []string{"b", "\xff", "a", "", "é", "ab", "B", "\x00", "a\x00", "世", "10", "9"}
	want := []string{"", "\x00", "10", "9", "B", "a", "a\x00", "ab", "b", "é", "世", "\xff"}
	for range 2 {
		var rows []row
		for _, key := range keys {
			rows = append(rows, row{key, 5, 0, 0})
		}
		s := build(t, listed(), rows...)
		for place, key := range want {
			n := uint32(place)
			checkChoose(t, s, 0, []uint32{n, n, n, n, n}, key, api.OK)
			checkChoose(t, s, 0, []uint32{n + 12, n, 0, 1, 2}, key, api.OK)
			checkChoose(t, s, 0, []uint32{n + 12*1000}, key, api.OK)
		}
		slices.Reverse(keys)
	}
}

// P16.1: a minute that is ahead of a sample's use, be it the least one or not, and of one that is no sample.
func TestChooseMinute(t *testing.T) {
	s := build(t, config(), row{"a", 5, 10, 0}, row{"b", 200, 20, 0}, row{"c", 5, 0, 0}, row{"d", 1, 30, 0})
	for n := range uint32(5) {
		draws := []uint32{2, 2, 2, 2, 2}
		draws[n] = 1
		checkChoose(t, s, 19, draws, "", api.ErrLfu)
		checkChoose(t, s, 20, draws, "c", api.OK)
		checkChoose(t, s, 0, draws, "", api.ErrLfu)
		draws[n] = 3
		checkChoose(t, s, 29, draws, "", api.ErrLfu)
		checkChoose(t, s, 0, draws, "", api.ErrLfu)
	}
	// d's use is of the minute 30, and b's of 20, but they are not drawn.
	checkChoose(t, s, 10, []uint32{2, 2, 0, 0, 2}, "c", api.OK)
	checkChoose(t, s, 0, []uint32{2, 2, 2, 2, 2}, "c", api.OK)
	checkChoose(t, s, 9, []uint32{2, 2, 2, 2, 2, 0, 1, 3}, "c", api.OK)
	// Missing draws are the key a's.
	checkChoose(t, s, 9, []uint32{2, 2, 2, 2}, "", api.ErrLfu)
	checkChoose(t, s, 9, nil, "", api.ErrLfu)
	checkChoose(t, s, 10, nil, "a", api.OK)
	for _, now := range []int{-1, -10, math.MinInt, math.MinInt + 1} {
		checkChoose(t, s, now, []uint32{2, 2, 2, 2, 2}, "", api.ErrLfu)
	}
	late := build(t, config(), row{"a", 5, math.MaxInt, 0}, row{"b", 5, 7, 0})
	checkChoose(t, late, math.MaxInt-1, nil, "", api.ErrLfu)
	checkChoose(t, late, math.MaxInt, nil, "a", api.OK)
	checkChoose(t, late, math.MaxInt, []uint32{0, 1}, "b", api.OK)
	checkChoose(t, late, math.MinInt, nil, "", api.ErrLfu)
}

// rowsOf are many keys of sets and uses of several kinds.
func rowsOf(n int) []row {
	var rows []row
	for k := range n {
		rows = append(rows, row{fmt.Sprint("k", k*7919%1000), 1 + k*13%17, 10 + k%9, k % 4})
	}
	return rows
}

// P16.1, R2: Choose changes nothing, neither a key nor a use nor, while the dict moves, a slot, with an error or without one.
func TestChooseChangesNothing(t *testing.T) {
	for _, c := range []api.Config{config(), listed()} {
		for _, n := range []int{0, 1, 4, 5, 6, 9, 10, 17, 33, 66} {
			rows := rowsOf(n)
			s, twin, m := build(t, c, rows...), build(t, c, rows...), newModel(c, rows...)
			for k := range uint32(40) {
				draws := []uint32{k, k * 3, k * 5, k * 7, mostDraw - k}
				for _, now := range []int{-1, 0, 12, 18, 19, 30, 1000} {
					want, wantErr := m.choose(now, draws)
					checkChoose(t, s, now, draws, want, wantErr)
				}
			}
			checkLeft(t, s, m)
			checkTwins(t, s, twin)
		}
	}
}

// P16.2: with a most size of 0, or below, nothing is done, whatever else is said.
func TestRoomNoMost(t *testing.T) {
	for _, most := range []int{0, -1, -63, -64, -65, math.MinInt, math.MinInt + 1} {
		s := same(t, 4)
		for _, now := range []int{0, 7, -1, math.MinInt} {
			checkRoom(t, s, most, now, nil, api.OK)
			checkRoom(t, s, most, now, []uint32{1, 2, 3, 4, 5}, api.OK)
			checkRoom(t, space.New(config()), most, now, nil, api.OK)
		}
		checkLeft(t, s, newModel(config(), alike(4)...))
	}
}

// P16.2: with room enough, be it just enough, nothing goes, and the minute isn't asked for.
func TestRoomEnough(t *testing.T) {
	s := same(t, 4)
	for _, most := range []int{64 + 4*62, 64 + 4*62 + 1, 1000, 1 << 40, math.MaxInt} {
		for _, now := range []int{0, 7, -1} {
			checkRoom(t, s, most, now, []uint32{1, 2, 3, 4, 5}, api.OK)
		}
	}
	checkLeft(t, s, newModel(config(), alike(4)...))
}

// P16.2, P16.3: one byte less than there is lets one key go; each more only where the size is above still.
func TestRoomSteps(t *testing.T) {
	for _, test := range []struct {
		most int
		gone []string
	}{
		{64 + 4*62 - 1, []string{"b"}},
		{64 + 3*62 + 1, []string{"b"}},
		{64 + 3*62, []string{"b"}},
		{64 + 3*62 - 1, []string{"b", "d"}},
		{64 + 2*62, []string{"b", "d"}},
		{64 + 2*62 - 1, []string{"b", "d", "c"}},
		{64 + 62, []string{"b", "d", "c"}},
		{64 + 62 - 1, []string{"b", "d", "c", "a"}},
		{64, []string{"b", "d", "c", "a"}},
	} {
		s := same(t, 4)
		// Behind b d is the place 2 of a, c, d; behind it c is the place 1 of a, c.
		checkRoom(t, s, test.most, 0, []uint32{1, 0, 0, 0, 0, 2, 0, 0, 0, 0, 1, 0, 0, 0, 0, 7, 7, 7, 7, 7}, api.OK, test.gone...)
		m := newModel(config(), alike(4)...)
		for _, key := range test.gone {
			m.drop(key)
		}
		checkLeft(t, s, m)
	}
}

// P16.2: for 64 each key goes, for less it is told, too, that there is too little room.
func TestRoomAll(t *testing.T) {
	for _, test := range []struct {
		most int
		e    api.Errno
	}{{64, api.OK}, {63, api.ErrMemory}, {62, api.ErrMemory}, {2, api.ErrMemory}, {1, api.ErrMemory}} {
		s := same(t, 4)
		checkRoom(t, s, test.most, 0, []uint32{3, 3, 3, 3, 3, 1, 1, 1, 1, 1}, test.e, "d", "b", "a", "c")
		checkLeft(t, s, newModel(config()))
		// There is no key now; a minute that no use could be of isn't asked for.
		for _, now := range []int{0, -1, math.MinInt} {
			checkRoom(t, s, test.most, now, []uint32{1}, test.e)
			checkRoom(t, space.New(listed()), test.most, now, nil, test.e)
		}
		if set, e := s.Make("new", 3); set == nil || e != api.OK {
			t.Fatalf("behind all keys that went Make is %v, %d", set, e)
		}
		checkRoom(t, s, 64+48+3+2, 3, nil, api.OK)
		checkRoom(t, s, 64+48+3+1, 3, nil, api.OK, "new")
	}
}

// P16.2: each key that goes takes five draws of its own; the last ones' that are missing are 0.
func TestRoomDraws(t *testing.T) {
	for _, test := range []struct {
		draws []uint32
		gone  []string
	}{
		{nil, []string{"a", "b", "c", "d"}},
		{[]uint32{4}, []string{"e", "a", "b", "c"}},
		{[]uint32{4, 0, 0, 0, 0}, []string{"e", "a", "b", "c"}},
		{[]uint32{4, 0, 0, 0, 0, 3}, []string{"e", "d", "a", "b"}},
		{[]uint32{4, 1, 1, 1, 1, 3, 1, 1, 1, 1, 2, 1, 1, 1, 1, 1}, []string{"e", "d", "c", "b"}},
		{[]uint32{4, 1, 1, 1, 1, 3, 1, 1, 1, 1, 2, 1, 1, 1, 1, 1, 0, 0, 0, 0, 9, 9, 9, 9, 9, 9}, []string{"e", "d", "c", "b"}},
		{[]uint32{mostDraw, 1, 1, 1, 1, mostDraw, 1, 1, 1, 1, mostDraw, 1, 1, 1, 1, mostDraw, 1, 1, 1, 1}, []string{"a", "e", "b", "d"}},
	} {
		s := same(t, 5)
		checkRoom(t, s, 64+62, 0, test.draws, api.OK, test.gone...)
	}
	// The fifth draw of each is asked, and so is one that ends the draws.
	rows := []row{{"a", 9, 0, 1}, {"b", 8, 0, 1}, {"c", 7, 0, 1}, {"d", 6, 0, 1}}
	s := build(t, config(), rows...)
	checkRoom(t, s, 64+2*62, 0, []uint32{0, 0, 0, 0, 3, 0, 0, 0, 0, 2}, api.OK, "d", "c")
	s = build(t, config(), rows...)
	checkRoom(t, s, 64+2*62, 0, []uint32{0, 0, 0, 0, 3, 0, 0, 2}, api.OK, "d", "c")
	s = build(t, config(), rows...)
	checkRoom(t, s, 64+2*62, 0, []uint32{0, 0, 0, 0, 1, 2}, api.OK, "b", "d")
	s = build(t, config(), rows...)
	checkRoom(t, s, 64+2*62, 0, []uint32{3, 3, 3, 3, 3, 0, 0, 0}, api.OK, "d", "a")
}

// P16.2, P16.3: keys of several sizes go by their uses, not by their sizes, and no more of them than must.
func TestRoomSizes(t *testing.T) {
	rows := []row{{"big", 5, 0, 26}, {"long" + strings.Repeat("x", 60), 6, 0, 0}, {"small", 7, 0, 0}}
	s := build(t, config(), rows...)
	if s.Size() != 64+(48+3+2+26*11)+(48+64+2)+(48+5+2) {
		t.Fatal(s.Size())
	}
	checkRoom(t, s, s.Size()-1, 0, []uint32{2, 1, 0}, api.OK, "big")
	checkRoom(t, s, s.Size()-1, 0, []uint32{1, 0}, api.OK, rows[1].key)
	checkKeys(t, s, "small")
	s = build(t, config(), rows...)
	checkRoom(t, s, s.Size()-55, 0, []uint32{2, 2, 2, 2, 2}, api.OK, "small")
	s = build(t, config(), rows...)
	checkRoom(t, s, s.Size()-56, 0, []uint32{2, 2, 2, 2, 2, 1, 1, 1, 1, 1}, api.OK, "small", rows[1].key)
	s = build(t, listed(), row{"a", 5, 0, 2}, row{"b", 5, 0, 0})
	if s.Size() != 64+(48+1+2*66)+(48+1+2) {
		t.Fatal(s.Size())
	}
	checkRoom(t, s, 64+51, 0, nil, api.OK, "a")
	checkKeys(t, s, "b")
}

// P16.2: ErrLfu, ahead of any key that goes, and behind keys that are gone, which stay so and are told.
func TestRoomMinute(t *testing.T) {
	rows := []row{{"a", 5, 3, 1}, {"b", 5, 10, 1}, {"c", 5, 3, 1}, {"d", 5, 3, 1}}
	s := build(t, config(), rows...)
	checkRoom(t, s, 64, 5, []uint32{0, 1, 0, 0, 0}, api.ErrLfu)
	checkRoom(t, s, 1, 2, nil, api.ErrLfu)
	checkRoom(t, s, 1, -1, nil, api.ErrLfu)
	checkRoom(t, s, 64+4*62-1, math.MinInt, nil, api.ErrLfu)
	checkLeft(t, s, newModel(config(), rows...))

	// Behind a and d the places are those of b and c.
	for _, most := range []int{64, 1, 64 + 62} {
		s = build(t, config(), rows...)
		checkRoom(t, s, most, 5, []uint32{0, 3, 3, 3, 3, 2, 2, 2, 2, 2, 1, 1, 1, 1, 0}, api.ErrLfu, "a", "d")
		m := newModel(config(), rows...)
		m.drop("a")
		m.drop("d")
		checkLeft(t, s, m)
	}
	// With room enough ahead of b nothing is told, nor where b is not drawn.
	s = build(t, config(), rows...)
	checkRoom(t, s, 64+2*62, 5, []uint32{0, 3, 3, 3, 3, 2, 2, 2, 2, 2, 1, 1, 1, 1, 0}, api.OK, "a", "d")
	checkRoom(t, s, 64+62, 5, []uint32{1, 1, 1, 1, 1}, api.OK, "c")
	checkRoom(t, s, 63, 9, []uint32{1, 1, 1, 1, 1}, api.ErrLfu)
	checkRoom(t, s, 63, 10, []uint32{1, 1, 1, 1, 1}, api.ErrMemory, "b")
}

// P16.3: keys that are left have the same set, entries, use and place among those that are left; slots of the dict are those behind the same keys' Delete.
func TestRoomLeft(t *testing.T) {
	for _, c := range []api.Config{config(), listed()} {
		for _, n := range []int{1, 4, 5, 6, 9, 10, 17, 33, 66, 70} {
			for _, part := range []int{1, 2, 3, 5, 10} {
				rows := rowsOf(n)
				s, twin, m := build(t, c, rows...), build(t, c, rows...), newModel(c, rows...)
				sets := map[string]*zset.Set{}
				for _, key := range s.Keys() {
					sets[key], _ = s.Find(key)
				}
				draws := make([]uint32, 3*n)
				for at := range draws {
					draws[at] = uint32(at*at + at)
				}
				most := s.Size() / part
				want, wantErr := m.room(most, 20, draws)
				checkRoom(t, s, most, 20, draws, wantErr, want...)
				checkLeft(t, s, m)
				for _, key := range s.Keys() {
					if set, there := s.Find(key); !there || set != sets[key] {
						t.Fatalf("%q has another set", key)
					}
				}
				for _, key := range want {
					if set, there := s.Find(key); there || set != nil {
						t.Fatalf("%q is there", key)
					}
					twin.Delete(key)
				}
				checkTwins(t, s, twin)
			}
		}
	}
}

// random makes rows, draws and minutes of few and of far numbers.
type random struct{ *rand.Rand }

func (r random) rows() []row {
	var rows []row
	for k := range r.IntN(14) {
		key := strings.Repeat(member(r.IntN(26)), r.IntN(3)) + string(byte(r.IntN(256))) + fmt.Sprint(k)
		rows = append(rows, row{key, 1 + r.IntN(14), 8 + r.IntN(6), r.IntN(4)})
	}
	return rows
}

func (r random) draws(most int) []uint32 {
	draws := make([]uint32, r.IntN(most))
	for at := range draws {
		draws[at] = r.Uint32() >> (r.IntN(3) * 14)
	}
	return draws
}

func (r random) now() int { return 10 + r.IntN(20) }

// P16.1, P16.3: what is chosen is the model's, a sample, and no sample is used less.
func TestChooseRandom(t *testing.T) {
	r := random{rand.New(rand.NewPCG(16, 1))}
	for range 1500 {
		rows := r.rows()
		s, m := build(t, config(), rows...), newModel(config(), rows...)
		for range 5 {
			draws, now := r.draws(9), r.now()
			want, wantErr := m.choose(now, draws)
			checkChoose(t, s, now, draws, want, wantErr)
			samples := evict.Samples(s.Keys(), draws)
			if !slices.Equal(samples, modelSamples(m.keys(), draws)) {
				t.Fatalf("Samples of %q, %v is %q", m.keys(), draws, samples)
			}
			if wantErr != api.OK {
				continue
			}
			u, _ := s.Use(want)
			least, _ := lfu.Count(u, now)
			for _, key := range samples {
				u, _ := s.Use(key)
				if count, e := lfu.Count(u, now); e != api.OK || count < least {
					t.Fatalf("of %q %q is chosen, used %d times, but %q is used %d times", samples, want, least, key, count)
				}
			}
			if !slices.Contains(samples, want) {
				t.Fatalf("%q is none of %q", want, samples)
			}
		}
		checkLeft(t, s, m)
	}
}

// P16.2, P16.3: what goes is the model's, ahead of each the size is above, and behind all it is not, or no key is left.
func TestRoomRandom(t *testing.T) {
	r := random{rand.New(rand.NewPCG(16, 2))}
	for n := range 3000 {
		c := config()
		if n%2 == 1 {
			c = listed()
		}
		rows := r.rows()
		s, twin, m := build(t, c, rows...), build(t, c, rows...), newModel(c, rows...)
		for range 3 {
			most, now, draws := r.IntN(s.Size()+20)-5, r.now(), r.draws(50)
			want, wantErr := m.room(most, now, draws)
			checkRoom(t, s, most, now, draws, wantErr, want...)
			for _, key := range want {
				if twin.Size() <= most || !twin.Delete(key) {
					t.Fatalf("%q goes of %d for %d", key, twin.Size(), most)
				}
			}
			if wantErr == api.OK && most > 0 && twin.Size() > most || wantErr == api.ErrMemory && twin.Len() > 0 {
				t.Fatalf("for %d %d is left, of %d keys", most, twin.Size(), twin.Len())
			}
			checkLeft(t, s, m)
		}
		checkTwins(t, s, twin)
	}
}

// P16.2: the greatest number of keys.
func TestRoomFull(t *testing.T) {
	var rows []row
	for k := range 500 {
		rows = append(rows, row{fmt.Sprintf("%064d", k*7%500), 5 + k%3, k % 5, k % 2})
	}
	r := random{rand.New(rand.NewPCG(16, 3))}
	for _, most := range []int{50000, 30000, 64, 1} {
		s, m := build(t, config(), rows...), newModel(config(), rows...)
		draws := r.draws(2600)
		want, wantErr := m.room(most, 4, draws)
		checkRoom(t, s, most, 4, draws, wantErr, want...)
		checkLeft(t, s, m)
	}
}

// P16.1, P16.2: a nil space, at each call, ahead of all else.
func TestNil(t *testing.T) {
	for _, now := range []int{0, 5, -1, math.MinInt, math.MaxInt} {
		for _, draws := range [][]uint32{nil, {}, {1}, {1, 2, 3, 4, 5, 6}} {
			checkChoose(t, nil, now, draws, "", api.ErrNil)
			for _, most := range []int{0, -1, 1, 63, 64, 1000, math.MinInt, math.MaxInt} {
				checkRoom(t, nil, most, now, draws, api.ErrNil)
			}
		}
	}
}

// R3: draws and keys that are handed in stay as they are, their spare room too, and are not kept.
func TestGivenStays(t *testing.T) {
	drawn := []uint32{3, 1, 2, 0, 5, 1, 1, 1, 1, 1, 2, 2, 2, 2, 2, 77, 88, 99}
	wasDrawn := slices.Clone(drawn)
	keys := []string{"d", "b", "a", "c", "spare", "room", "more"}
	wasKeys := slices.Clone(keys)
	for n := range 16 {
		s := same(t, 6)
		samples := evict.Samples(keys[:4], drawn[:n])
		want := modelSamples(wasKeys[:4], wasDrawn[:n])
		key, _ := evict.Choose(s, 0, drawn[:n])
		gone, _ := evict.Room(s, 64, 0, drawn[:n])
		wantGone, _ := newModel(config(), alike(6)...).room(64, 0, wasDrawn[:n])
		if !slices.Equal(drawn, wasDrawn) || !slices.Equal(keys, wasKeys) {
			t.Fatalf("what was handed in is %v, %q", drawn, keys)
		}
		for at := range keys {
			keys[at] = "changed"
		}
		clear(drawn)
		if !slices.Equal(samples, want) || !slices.Equal(gone, wantGone) || key != wantGone[0] {
			t.Fatalf("what was answered is %q, %q, %q, not %q, %q", samples, key, gone, want, wantGone)
		}
		copy(keys, wasKeys)
		copy(drawn, wasDrawn)
	}
}

// R3: what is answered is new memory, spare room too.
func TestAnswersNew(t *testing.T) {
	spoil := func(l []string) {
		l = l[:cap(l)]
		for at := range l {
			l[at] = "spoilt"
		}
	}
	keys := []string{"a", "b", "c", "d", "e"}
	one, other := evict.Samples(keys, []uint32{0, 1, 2, 3, 4}), evict.Samples(keys, []uint32{0, 1, 2, 3, 4})
	spoil(one)
	if want := []string{"a", "b", "c", "d", "e"}; !slices.Equal(keys, want) || !slices.Equal(other, want) {
		t.Fatalf("an answer that is written into changes %q, %q", keys, other)
	}
	s := same(t, 6)
	first, _ := evict.Room(s, 64+4*62, 0, nil)
	second, _ := evict.Room(s, 64+2*62, 0, nil)
	spoil(first)
	checkKeys(t, s, "e", "f")
	if !slices.Equal(second, []string{"c", "d"}) {
		t.Fatalf("an answer that is written into changes %q", second)
	}
	spoil(second)
	checkChoose(t, s, 0, []uint32{1}, "f", api.OK)
	checkRoom(t, s, 64, 0, nil, api.OK, "e", "f")
}

// R4: what is answered hangs on what is given and on the space alone: the same again, and of a space that was made otherwise.
func TestAgain(t *testing.T) {
	rows := rowsOf(40)
	back := slices.Clone(rows)
	slices.Reverse(back)
	r := random{rand.New(rand.NewPCG(16, 4))}
	for range 20 {
		a, b := build(t, config(), rows...), build(t, api.Config{Limits: config().Limits, Seed: 99, Max: 1}, back...)
		draws := r.draws(60)
		want, wantErr := evict.Choose(a, 18, draws)
		checkChoose(t, a, 18, draws, want, wantErr)
		checkChoose(t, b, 18, draws, want, wantErr)
		gone, e := evict.Room(a, 1000, 18, draws)
		checkRoom(t, b, 1000, 18, draws, e, gone...)
		checkKeys(t, b, a.Keys()...)
	}
}
