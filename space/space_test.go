package space_test

import (
	"fmt"
	"maps"
	"math"
	"math/rand/v2"
	"slices"
	"strings"
	"testing"

	"palio/api"
	"palio/dict"
	"palio/scan"
	"palio/space"
	"palio/zset"
)

const mostDraw = math.MaxUint32

// mostCalls is more than a scan of 500 keys may take; mostSlots more than a dict of them may move.
const (
	mostCalls = 5000
	mostSlots = 100000
)

func config(entries int, member int, seed uint32) api.Config {
	return api.Config{Limits: api.Limits{Entries: entries, Member: member}, Seed: seed}
}

// configs are such of sets that are packs, that are lists, and that become lists on the way.
func configs() []api.Config {
	return []api.Config{config(200, 64, 0), config(0, 0, 1), config(3, 64, 0xdeadbeef), config(200, 2, mostDraw), {Max: 1}, {Limits: api.Limits{Entries: -1, Member: 99}, Max: -5}}
}

// long is a key of so many bytes.
func long(n int) string { return strings.Repeat("x", n) }

// name is a key of its own for each number.
func name(n int) string { return fmt.Sprintf("k%d", n) }

func entry(member string, score int64) api.Entry { return api.Entry{Member: member, Score: score} }

func use(count int, at int) api.Use { return api.Use{Count: count, At: at} }

// modelThing is what a key has, by the document's words: members and scores, whether they are a list, a use.
type modelThing struct {
	scores map[string]int64
	listed bool
	use    api.Use
}

// model is keys and what they have.
type model struct {
	entries int
	member  int
	things  map[string]*modelThing
}

func newModel(c api.Config) *model {
	return &model{min(max(c.Limits.Entries, 0), 200), min(max(c.Limits.Member, 0), 64), map[string]*modelThing{}}
}

func (m *model) add(th *modelThing, e api.Entry) {
	_, there := th.scores[e.Member]
	if len(e.Member) > 64 || !there && len(th.scores) == 400 {
		return
	}
	th.scores[e.Member] = e.Score
	th.listed = th.listed || len(th.scores) > m.entries || len(e.Member) > m.member
}

func (m *model) make(key string, now int) api.Errno {
	switch {
	case len(key) > 64:
		return 140
	case m.things[key] != nil:
		return 0
	case now < 0:
		return 130
	case len(m.things) == 500:
		return 51
	}
	m.things[key] = &modelThing{map[string]int64{}, false, use(5, now)}
	return 0
}

func (m *model) put(key string, l []api.Entry, now int) api.Errno {
	if e := m.make(key, now); e != 0 {
		return e
	}
	th := m.things[key]
	th.scores, th.listed = map[string]int64{}, false
	for _, e := range l {
		m.add(th, e)
	}
	return 0
}

func (m *model) delete(key string) bool {
	_, there := m.things[key]
	delete(m.things, key)
	return there
}

func (m *model) tidy(key string) bool {
	th := m.things[key]
	return th != nil && len(th.scores) == 0 && m.delete(key)
}

func (m *model) rename(from string, to string) api.Errno {
	th := m.things[from]
	switch {
	case th == nil:
		return 141
	case len(to) > 64:
		return 140
	}
	delete(m.things, from)
	m.things[to] = th
	return 0
}

func (m *model) touch(key string, now int, draw uint32) api.Errno {
	th := m.things[key]
	switch {
	case th == nil:
		return 141
	case now < th.use.At:
		return 130
	}
	count := max(th.use.Count-(now-th.use.At), 0)
	if count < 255 && uint64(draw)%uint64(10*max(count-5, 0)+1) == 0 {
		count++
	}
	th.use = use(count, now)
	return 0
}

func (th *modelThing) entries() []api.Entry {
	var l []api.Entry
	for member, score := range th.scores {
		l = append(l, entry(member, score))
	}
	slices.SortFunc(l, func(a api.Entry, b api.Entry) int {
		switch {
		case a.Score < b.Score:
			return -1
		case a.Score > b.Score:
			return 1
		}
		return strings.Compare(a.Member, b.Member)
	})
	return l
}

func (th *modelThing) encoding() string {
	if th.listed {
		return "skiplist"
	}
	return "listpack"
}

func (m *model) size() int {
	n := 64
	for key, th := range m.things {
		n += 48 + len(key)
		if !th.listed {
			n += 2
		}
		for member := range th.scores {
			if th.listed {
				n += 64 + 2*len(member)
			} else {
				n += 1 + len(member) + 8 + 1
			}
		}
	}
	return n
}

func (m *model) keys() []string {
	return slices.Sorted(maps.Keys(m.things))
}

// both are a space and its model, to which the same is done.
type both struct {
	t *testing.T
	s *space.Space
	m *model
}

func newBoth(t *testing.T, c api.Config) both {
	return both{t, space.New(c), newModel(c)}
}

// filled has so many keys, the first one of an empty set, the others of sets of several entries and uses of several minutes.
func filled(t *testing.T, c api.Config, n int) both {
	t.Helper()
	b := newBoth(t, c)
	for k := range n {
		b.make(name(k), k%7)
		for member := range k % 5 {
			b.add(name(k), entry(long(member), int64(k-member)))
		}
	}
	return b
}

// made answers what Make does, as the model has told that it makes.
func (b both) made(key string, now int) *zset.Set {
	b.t.Helper()
	set, e := b.s.Make(key, now)
	if want := b.m.make(key, now); e != want || (set != nil) != (want == api.OK) {
		b.t.Fatalf("Make(%.80q, %d) is %v, %d, not %d", key, now, set, e, want)
	}
	return set
}

func (b both) make(key string, now int) {
	b.t.Helper()
	b.made(key, now)
	b.count()
}

// add adds to the set of a key that is there, as Find has it.
func (b both) add(key string, e api.Entry) {
	b.t.Helper()
	set, there := b.s.Find(key)
	if !there || set == nil {
		b.t.Fatalf("Find(%.80q) is %v, %t", key, set, there)
	}
	set.Add(e.Member, e.Score, 1+len(b.m.things)%32)
	b.m.add(b.m.things[key], e)
	b.count()
}

func (b both) put(key string, l []api.Entry, now int) {
	b.t.Helper()
	if e, want := b.s.Put(key, l, now), b.m.put(key, l, now); e != want {
		b.t.Fatalf("Put(%.80q, .., %d) is %d, not %d", key, now, e, want)
	}
	b.count()
}

func (b both) delete(key string) {
	b.t.Helper()
	if got, want := b.s.Delete(key), b.m.delete(key); got != want {
		b.t.Fatalf("Delete(%.80q) is %t", key, got)
	}
	b.count()
}

func (b both) tidy(key string) {
	b.t.Helper()
	if got, want := b.s.Tidy(key), b.m.tidy(key); got != want {
		b.t.Fatalf("Tidy(%.80q) is %t", key, got)
	}
	b.count()
}

func (b both) rename(from string, to string) {
	b.t.Helper()
	if e, want := b.s.Rename(from, to), b.m.rename(from, to); e != want {
		b.t.Fatalf("Rename(%.80q, %.80q) is %d, not %d", from, to, e, want)
	}
	b.count()
}

func (b both) touch(key string, now int, draw uint32) {
	b.t.Helper()
	if e, want := b.s.Touch(key, now, draw), b.m.touch(key, now, draw); e != want {
		b.t.Fatalf("Touch(%.80q, %d, %d) is %d, not %d", key, now, draw, e, want)
	}
	b.one(key)
}

func (b both) flush() {
	b.t.Helper()
	b.s.Flush()
	b.m.things = map[string]*modelThing{}
	b.all()
}

// count holds how many keys there are, and their size.
func (b both) count() {
	b.t.Helper()
	if n, want := b.s.Len(), len(b.m.things); n != want {
		b.t.Fatalf("there are %d keys, not %d", n, want)
	}
	if n, want := b.s.Size(), b.m.size(); n != want {
		b.t.Fatalf("the size is %d, not %d", n, want)
	}
}

// one holds what is told of a key.
func (b both) one(key string) {
	b.t.Helper()
	th := b.m.things[key]
	set, there := b.s.Find(key)
	u, used := b.s.Use(key)
	if th == nil {
		if set != nil || there || u != use(0, 0) || used {
			b.t.Fatalf("of %.80q, which is not there, %v, %t, %v, %t are told", key, set, there, u, used)
		}
		return
	}
	if set == nil || !there || u != th.use || !used {
		b.t.Fatalf("of %.80q %v, %t, %v, %t are told, not the use %v", key, set, there, u, used, th.use)
	}
	if l := set.Range(0, 1000); !slices.Equal(l, th.entries()) || set.Encoding() != th.encoding() {
		b.t.Fatalf("the set of %.80q is %s %.300q, not %s %.300q", key, set.Encoding(), fmt.Sprint(l), th.encoding(), fmt.Sprint(th.entries()))
	}
}

// all holds what every call tells that changes nothing.
func (b both) all() {
	b.t.Helper()
	b.count()
	keys := b.m.keys()
	checkKeys(b.t, "Keys", b.s.Keys(), keys)
	for _, key := range keys {
		b.one(key)
		b.one(key + "\x00")
	}
	for _, key := range []string{"", "\x00", "none", long(64), long(65), long(5000)} {
		b.one(key)
	}
	told := scanAll(b.t, b.s)
	slices.Sort(told)
	checkKeys(b.t, "Scan of all, in order", told, keys)
	b.count()
}

func scanAll(t *testing.T, s *space.Space) []string {
	t.Helper()
	told, cursor := s.Scan(0)
	for calls := 0; cursor != 0; calls++ {
		if calls == mostCalls {
			t.Fatal("a scan doesn't come back to 0")
		}
		var more []string
		more, cursor = s.Scan(cursor)
		told = append(told, more...)
	}
	return told
}

func checkKeys(t *testing.T, call string, got []string, want []string) {
	t.Helper()
	if !slices.Equal(got, want) {
		t.Fatalf("%s is %.500q, not %.500q", call, got, want)
	}
}

func checkMake(t *testing.T, s *space.Space, key string, now int, want api.Errno) {
	t.Helper()
	if set, e := s.Make(key, now); e != want || (set != nil) != (want == api.OK) {
		t.Fatalf("Make(%.80q, %d) is %v, %d, not %d", key, now, set, e, want)
	}
}

func checkPut(t *testing.T, s *space.Space, key string, l []api.Entry, now int, want api.Errno) {
	t.Helper()
	if e := s.Put(key, l, now); e != want {
		t.Fatalf("Put(%.80q, .., %d) is %d, not %d", key, now, e, want)
	}
}

func checkUse(t *testing.T, s *space.Space, key string, want api.Use, wantThere bool) {
	t.Helper()
	if u, there := s.Use(key); u != want || there != wantThere {
		t.Fatalf("Use(%.80q) is %v, %t, not %v, %t", key, u, there, want, wantThere)
	}
}

func checkEntries(t *testing.T, s *space.Space, key string, encoding string, want ...api.Entry) {
	t.Helper()
	set, there := s.Find(key)
	if !there {
		t.Fatalf("%.80q is not there", key)
	}
	if l := set.Range(0, 1000); !slices.Equal(l, want) || set.Encoding() != encoding {
		t.Fatalf("the set of %.80q is %s %v, not %s %v", key, set.Encoding(), l, encoding, want)
	}
}

func checkSize(t *testing.T, s *space.Space, want int) {
	t.Helper()
	if n := s.Size(); n != want {
		t.Fatalf("the size is %d, not %d", n, want)
	}
}

func checkErr(t *testing.T, call string, e api.Errno, want api.Errno) {
	t.Helper()
	if e != want {
		t.Fatalf("%s is %d, not %d", call, e, want)
	}
}

func checkIs(t *testing.T, call string, is bool, want bool) {
	t.Helper()
	if is != want {
		t.Fatalf("%s is %t", call, is)
	}
}

// P15.1: a new space has no keys, whatever its configuration, and is another one each time.
func TestNew(t *testing.T) {
	for _, c := range append(configs(), config(math.MinInt, math.MinInt, 7), config(math.MaxInt, math.MaxInt, 7), api.Config{Max: math.MaxInt}) {
		a, b := newBoth(t, c), newBoth(t, c)
		a.all()
		a.make("k", 3)
		a.add("k", entry("m", 1))
		a.all()
		b.all()
	}
}

// The document's example: one key, k, of an empty set.
func TestExample(t *testing.T) {
	s := space.New(config(200, 64, 0))
	checkSize(t, s, 64)
	checkMake(t, s, "k", 0, api.OK)
	checkSize(t, s, 64+48+1+2)
	checkKeys(t, "Keys", s.Keys(), []string{"k"})
	checkUse(t, s, "k", use(5, 0), true)
}

// P15.1: keys of 0 and of 64 bytes, of any bytes, and of more: bytes are counted, not characters.
func TestMakeKeys(t *testing.T) {
	for _, c := range configs() {
		b := newBoth(t, c)
		for _, key := range []string{"", long(63), long(64), long(65), long(66), long(5000), "\x00", "\x00\x00", "\xff", "a b\r\n", strings.Repeat("é", 32), strings.Repeat("é", 32) + "x", strings.Repeat("é", 33), strings.Repeat("世", 21), strings.Repeat("世", 22), "k", "K"} {
			b.make(key, 9)
			b.one(key)
		}
		b.all()
		checkMake(t, b.s, long(65), 9, api.ErrKey)
		checkMake(t, b.s, strings.Repeat("世", 22), 9, api.ErrKey)
		checkMake(t, b.s, long(64), 9, api.OK)
		checkMake(t, b.s, "", 9, api.OK)
		b.all()
	}
}

// P15.1: a new key has an empty set, of the configuration's limits, and a new use of the minute.
func TestMakeNew(t *testing.T) {
	s := space.New(config(2, 3, 9))
	for at, now := range []int{0, 1, 7, 1 << 40, math.MaxInt} {
		set, e := s.Make(name(at), now)
		checkErr(t, "Make", e, api.OK)
		if set.Len() != 0 || set.Encoding() != "listpack" || set.Bytes() != 2 {
			t.Fatalf("a new set is %s of %d", set.Encoding(), set.Len())
		}
		checkUse(t, s, name(at), use(5, now), true)
	}
	set, _ := s.Make("k0", 0)
	set.Add("abc", 1, 1)
	set.Add("b", 1, 1)
	checkEntries(t, s, "k0", "listpack", entry("abc", 1), entry("b", 1))
	set.Add("c", 1, 1)
	checkEntries(t, s, "k0", "skiplist", entry("abc", 1), entry("b", 1), entry("c", 1))
	set, _ = s.Make("k1", 0)
	set.Add("abcd", 1, 1)
	checkEntries(t, s, "k1", "skiplist", entry("abcd", 1))
}

// P15.1: a set's scans, when it is a list, are those of the configuration's seed.
func TestMakeSeed(t *testing.T) {
	for _, seed := range []uint32{0, 1, 77, mostDraw} {
		c := config(0, 0, seed)
		s := space.New(c)
		made, _ := s.Make("k", 0)
		want := zset.New(c.Limits, seed)
		var l []api.Entry
		for n := range 60 {
			l = append(l, entry(name(n), int64(n)))
			made.Add(name(n), int64(n), 1)
			want.Add(name(n), int64(n), 1)
		}
		checkPut(t, s, "put", l, 0, api.OK)
		put, _ := s.Find("put")
		for cursor := range uint32(300) {
			told, next := want.Scan(cursor)
			for _, set := range []*zset.Set{made, put} {
				if l, at := set.Scan(cursor); !slices.Equal(l, told) || at != next {
					t.Fatalf("of the seed %d a set's scan at %d is %v, %d, not %v, %d", seed, cursor, l, at, told, next)
				}
			}
		}
	}
}

// P15.1: a key that is there keeps its set and its use, whatever the minute is.
func TestMakeThere(t *testing.T) {
	for _, c := range configs() {
		b := newBoth(t, c)
		first := b.made("k", 50)
		b.add("k", entry("m", 3))
		b.touch("k", 52, 0)
		for _, now := range []int{52, 50, 0, -1, math.MinInt, 100, math.MaxInt} {
			if again := b.made("k", now); again != first {
				t.Fatalf("Make at %d answers another set", now)
			}
			if found, there := b.s.Find("k"); found != first || !there {
				t.Fatalf("behind Make at %d Find answers another set, %t", now, there)
			}
			b.all()
		}
		checkUse(t, b.s, "k", use(4, 52), true)
	}
}

// P15.1: a minute below 0 with a key that is not there, and with one that is.
func TestMakeMinute(t *testing.T) {
	b := filled(t, config(200, 64, 0), 3)
	for _, now := range []int{-1, -2, -1 << 31, math.MinInt + 1, math.MinInt} {
		checkMake(t, b.s, "new", now, api.ErrLfu)
		checkPut(t, b.s, "new", []api.Entry{entry("m", 1)}, now, api.ErrLfu)
		checkMake(t, b.s, long(65), now, api.ErrKey)
		checkPut(t, b.s, long(65), nil, now, api.ErrKey)
		checkMake(t, b.s, name(1), now, api.OK)
		b.all()
		b.put(name(1), []api.Entry{entry("m", int64(now))}, now)
		b.all()
	}
	b.make("new", 0)
	b.all()
}

// P15.1: the five hundredth key, the next one, and which error is told first of a full space.
func TestMakeFull(t *testing.T) {
	for _, c := range []api.Config{config(200, 64, 0), config(0, 0, 5)} {
		b := filled(t, c, 499)
		checkMake(t, b.s, long(65), 1, api.ErrKey)
		b.make("last", 1)
		b.all()
		checkMake(t, b.s, "next", 1, api.ErrFull)
		checkPut(t, b.s, "next", []api.Entry{entry("m", 1)}, 1, api.ErrFull)
		checkPut(t, b.s, "", nil, 1, api.ErrFull)
		checkMake(t, b.s, "next", -1, api.ErrLfu)
		checkPut(t, b.s, "next", nil, -1, api.ErrLfu)
		checkMake(t, b.s, long(65), 1, api.ErrKey)
		checkMake(t, b.s, long(65), -1, api.ErrKey)
		checkPut(t, b.s, long(65), nil, 1, api.ErrKey)
		b.all()
		b.make("last", -1)
		b.make(name(7), 1)
		b.put(name(8), []api.Entry{entry("m", 1)}, -1)
		b.all()
		b.delete(name(9))
		b.put("next", []api.Entry{entry("m", 1)}, 1)
		checkMake(t, b.s, "another", 1, api.ErrFull)
		b.tidy(name(0))
		b.make("another", 1)
		checkMake(t, b.s, name(0), 1, api.ErrFull)
		b.rename("another", "last")
		b.make(name(0), 1)
		checkMake(t, b.s, "another", 1, api.ErrFull)
		b.all()
	}
}

// P15.1: Find tells the set itself, of keys that are there, and none of others.
func TestFind(t *testing.T) {
	for n := range 40 {
		b := filled(t, config(3, 64, 1), n)
		for k := range n + 3 {
			found, there := b.s.Find(name(k))
			checkIs(t, "Find", there, k < n)
			if k >= n {
				continue
			}
			if again := b.made(name(k), 0); again != found {
				t.Fatalf("of %d keys Find of %d is not what Make answers", n, k)
			}
			found.Add("more", 1, 1)
			b.m.add(b.m.things[name(k)], entry("more", 1))
		}
		b.all()
	}
}

// P15.1: Put of no entries, of some, of one member twice, and of such as zset.Add refuses, to a new key.
func TestPutNew(t *testing.T) {
	s := space.New(config(3, 4, 0))
	checkPut(t, s, "none", nil, 3, api.OK)
	checkEntries(t, s, "none", "listpack")
	checkPut(t, s, "empty", []api.Entry{}, 3, api.OK)
	checkEntries(t, s, "empty", "listpack")
	checkPut(t, s, "some", []api.Entry{entry("b", 2), entry("a", 2), entry("c", -1)}, 3, api.OK)
	checkEntries(t, s, "some", "listpack", entry("c", -1), entry("a", 2), entry("b", 2))
	checkPut(t, s, "twice", []api.Entry{entry("a", 2), entry("b", 1), entry("a", 0)}, 3, api.OK)
	checkEntries(t, s, "twice", "listpack", entry("a", 0), entry("b", 1))
	checkPut(t, s, "refused", []api.Entry{entry("a", 2), entry(long(65), 1), entry("b", 0), entry(long(9000), 7)}, 3, api.OK)
	checkEntries(t, s, "refused", "listpack", entry("b", 0), entry("a", 2))
	checkPut(t, s, "all refused", []api.Entry{entry(long(65), 1)}, 3, api.OK)
	checkEntries(t, s, "all refused", "listpack")
	checkPut(t, s, "list", []api.Entry{entry("a", 2), entry("b", math.MinInt64), entry("c", math.MaxInt64), entry("", 0)}, 3, api.OK)
	checkEntries(t, s, "list", "skiplist", entry("b", math.MinInt64), entry("", 0), entry("a", 2), entry("c", math.MaxInt64))
	checkPut(t, s, "long", []api.Entry{entry("abcde", 2)}, 3, api.OK)
	checkEntries(t, s, "long", "skiplist", entry("abcde", 2))
	for _, key := range s.Keys() {
		checkUse(t, s, key, use(5, 3), true)
	}
	checkKeys(t, "Keys", s.Keys(), []string{"all refused", "empty", "list", "long", "none", "refused", "some", "twice"})
}

// P15.1: of more than 400 entries the members behind the four hundredth are left, but not what comes of those that are there.
func TestPutMany(t *testing.T) {
	for _, c := range configs() {
		for _, n := range []int{199, 200, 201, 399, 400, 401, 405} {
			b := newBoth(t, c)
			var l []api.Entry
			for k := range n {
				l = append(l, entry(name(k), int64(k%17)))
			}
			l = append(l, entry(name(5), -7), entry("late", 1), entry(name(6), 99), entry(long(65), 1))
			b.put("k", l, 2)
			b.all()
			set, _ := b.s.Find("k")
			if set.Len() != min(n+1, 400) {
				t.Fatalf("of %d entries there are %d", n+1, set.Len())
			}
			if score, there := set.Score(name(5)); score != -7 || !there {
				t.Fatal("what is added to a member that is there is left")
			}
			_, there := set.Score("late")
			checkIs(t, "Score of the late one", there, n < 400)
		}
	}
}

// P15.1: a key that is there keeps its use, and has the new entries alone, in a new set.
func TestPutThere(t *testing.T) {
	for _, c := range configs() {
		b := newBoth(t, c)
		old := b.made("k", 50)
		for n := range 5 {
			b.add("k", entry(name(n), int64(n)))
		}
		b.touch("k", 53, 1)
		before, wasForm := old.Range(0, 10), old.Encoding()
		for _, now := range []int{60, 53, 50, 0, -1, math.MinInt, math.MaxInt} {
			for _, l := range [][]api.Entry{{entry("k2", 9), entry("other", 1)}, nil, {entry("a", 1), entry("a", 2)}, {entry(long(65), 1)}} {
				b.put("k", l, now)
				b.all()
				checkUse(t, b.s, "k", use(3, 53), true)
				if set, _ := b.s.Find("k"); set == old {
					t.Fatal("Put leaves the old set")
				}
			}
		}
		if !slices.Equal(old.Range(0, 10), before) || old.Encoding() != wasForm {
			t.Fatal("Put has changed the old set")
		}
		old.Add("into the old one", 1, 1)
		b.all()
	}
}

// P15.1: a set that was a list is a pack again, when it is put anew.
func TestPutForms(t *testing.T) {
	s := space.New(config(2, 64, 0))
	checkPut(t, s, "k", []api.Entry{entry("a", 1), entry("b", 2), entry("c", 3)}, 0, api.OK)
	checkEntries(t, s, "k", "skiplist", entry("a", 1), entry("b", 2), entry("c", 3))
	checkSize(t, s, 64+48+1+3*66)
	checkPut(t, s, "k", []api.Entry{entry("c", 3)}, 0, api.OK)
	checkEntries(t, s, "k", "listpack", entry("c", 3))
	checkSize(t, s, 64+48+1+2+11)
}

// P15.1: Delete of keys that are there, and that are not, of 1 up to many.
func TestDelete(t *testing.T) {
	for _, n := range []int{0, 1, 2, 4, 5, 8, 9, 40, 200} {
		b := filled(t, config(3, 64, 2), n)
		b.delete("none")
		b.delete("")
		b.delete(long(65))
		b.all()
		for k := range n {
			key := name(k * 7 % n)
			if n%7 == 0 {
				key = name(k)
			}
			b.delete(key)
			b.one(key)
			b.delete(key)
			if k%9 == 0 {
				b.all()
			}
		}
		b.all()
	}
}

// P15.1: a key that is made again has a new set, and a new use.
func TestDeleteMake(t *testing.T) {
	b := newBoth(t, config(200, 64, 2))
	old := b.made("k", 1)
	b.add("k", entry("m", 1))
	b.touch("k", 2, 0)
	b.delete("k")
	b.make("k", 0)
	checkUse(t, b.s, "k", use(5, 0), true)
	old.Add("n", 1, 1)
	b.all()
	if found, _ := b.s.Find("k"); found == old {
		t.Fatal("a key that was deleted has its old set")
	}
}

// P15.1: Tidy deletes keys of empty sets alone, of packs and of lists.
func TestTidy(t *testing.T) {
	for _, c := range configs() {
		b := filled(t, c, 30)
		b.tidy("none")
		b.tidy("")
		b.tidy(long(65))
		b.all()
		for k := range 30 {
			b.tidy(name(k))
			b.all()
		}
		for k := range 30 {
			if set, there := b.s.Find(name(k)); there {
				set.Cut(0, 400)
				clear(b.m.things[name(k)].scores)
			}
			b.all()
			b.tidy(name(k))
			b.tidy(name(k))
			b.all()
		}
		checkKeys(t, "Keys", b.s.Keys(), nil)
	}
}

// P15.2: Rename to a new key: its set and its use go with it.
func TestRenameNew(t *testing.T) {
	for _, n := range []int{1, 2, 3, 4, 5, 6, 8, 9, 60} {
		b := filled(t, config(3, 64, 3), n)
		for k := range n {
			b.touch(name(k), 9+k, 0)
			set, _ := b.s.Find(name(k))
			u, _ := b.s.Use(name(k))
			to := fmt.Sprintf("to%d", k)
			b.rename(name(k), to)
			b.all()
			checkUse(t, b.s, to, u, true)
			if found, there := b.s.Find(to); found != set || !there {
				t.Fatal("a renamed key has another set")
			}
			b.rename(name(k), to)
			b.rename(name(k), name(k))
			b.all()
		}
	}
}

// P15.2: Rename to a key that is there: what that had is gone.
func TestRenameThere(t *testing.T) {
	for _, c := range configs() {
		for _, n := range []int{2, 3, 4, 5, 8, 9, 33} {
			b := filled(t, c, n)
			gone, _ := b.s.Find(name(1))
			set, _ := b.s.Find(name(0))
			b.touch(name(0), 77, 0)
			b.touch(name(1), 88, 0)
			b.rename(name(0), name(1))
			b.all()
			if found, _ := b.s.Find(name(1)); found != set || found == gone {
				t.Fatal("a key that was renamed to has its old set")
			}
			checkUse(t, b.s, name(1), use(1, 77), true)
			gone.Add("into what is gone", 1, 1)
			b.all()
			for k := 2; k < n; k++ {
				b.rename(name(k), name(k-1))
				b.all()
			}
		}
	}
}

// P15.2: Rename to itself changes nothing, of a key of 64 bytes, too.
func TestRenameItself(t *testing.T) {
	b := filled(t, config(3, 64, 3), 5)
	b.make(long(64), 1)
	b.make("", 1)
	for _, key := range b.m.keys() {
		set, _ := b.s.Find(key)
		b.rename(key, key)
		b.all()
		if found, _ := b.s.Find(key); found != set {
			t.Fatal("a key that is renamed to itself has another set")
		}
	}
}

// P15.2: wrong keys: the one that is not there is told first.
func TestRenameWrong(t *testing.T) {
	b := filled(t, config(3, 64, 3), 6)
	for _, c := range []struct {
		from string
		to   string
		want api.Errno
	}{
		{name(1), long(65), api.ErrKey},
		{name(1), long(5000), api.ErrKey},
		{name(1), strings.Repeat("é", 33), api.ErrKey},
		{"none", "to", api.ErrNoKey},
		{"none", name(1), api.ErrNoKey},
		{"none", "none", api.ErrNoKey},
		{"none", long(65), api.ErrNoKey},
		{"", "to", api.ErrNoKey},
		{long(65), "to", api.ErrNoKey},
		{long(65), long(65), api.ErrNoKey},
		{name(1), long(64), api.OK},
		{name(1), "to", api.ErrNoKey},
		{long(64), "", api.OK},
		{"", name(1), api.OK},
		{name(1), name(1), api.OK},
	} {
		checkErr(t, "Rename", b.s.Rename(c.from, c.to), c.want)
		checkErr(t, "the model's Rename", b.m.rename(c.from, c.to), c.want)
		b.all()
	}
}

// P15.2: at 500 keys Rename needs no room.
func TestRenameFull(t *testing.T) {
	b := filled(t, config(200, 64, 4), 500)
	b.rename(name(3), "to")
	checkMake(t, b.s, name(3), 0, api.ErrFull)
	b.rename("to", "to")
	b.rename("to", long(64))
	b.rename(long(64), long(65))
	b.rename("none", long(65))
	b.all()
	b.rename(long(64), name(4))
	b.make(name(3), 0)
	checkMake(t, b.s, "next", 0, api.ErrFull)
	b.all()
}

// P15.2: Touch by draws that let a count rise, and not; of later minutes, and of one that its use is ahead of.
func TestTouch(t *testing.T) {
	s := space.New(config(200, 64, 0))
	checkErr(t, "Touch", s.Touch("k", 3, 0), api.ErrNoKey)
	checkMake(t, s, "k", 3, api.OK)
	for _, step := range []struct {
		now  int
		draw uint32
		want api.Errno
		use  api.Use
	}{
		{3, 77, api.OK, use(6, 3)}, {3, 1, api.OK, use(6, 3)}, {3, 11, api.OK, use(7, 3)}, {3, 20, api.OK, use(7, 3)},
		{5, 0, api.OK, use(6, 5)}, {4, 0, api.ErrLfu, use(6, 5)}, {0, 0, api.ErrLfu, use(6, 5)}, {-1, 0, api.ErrLfu, use(6, 5)}, {math.MinInt, 0, api.ErrLfu, use(6, 5)},
		{6, mostDraw, api.OK, use(6, 6)}, {9, 1, api.OK, use(4, 9)}, {100, 3, api.OK, use(1, 100)}, {math.MaxInt, 9, api.OK, use(1, math.MaxInt)}, {math.MaxInt - 1, 9, api.ErrLfu, use(1, math.MaxInt)},
	} {
		checkErr(t, "Touch", s.Touch("k", step.now, step.draw), step.want)
		checkUse(t, s, "k", step.use, true)
	}
	for _, key := range []string{"", "K", "kk", long(64), long(65)} {
		checkErr(t, "Touch", s.Touch(key, 3, 0), api.ErrNoKey)
		checkErr(t, "Touch", s.Touch(key, -3, 0), api.ErrNoKey)
		checkUse(t, s, key, use(0, 0), false)
	}
	checkKeys(t, "Keys", s.Keys(), []string{"k"})
}

// P15.2: a use rises to 255 and stays there.
func TestTouchOnAndOn(t *testing.T) {
	b := filled(t, config(200, 64, 0), 9)
	for range 300 {
		b.touch(name(3), 8, 0)
	}
	checkUse(t, b.s, name(3), use(255, 8), true)
	b.touch(name(3), 8, 2551)
	b.touch(name(3), 10, 1)
	b.touch(name(3), 10, 2481*3)
	checkUse(t, b.s, name(3), use(254, 10), true)
	b.all()
}

// P15.3: Keys are in the order of their bytes.
func TestKeys(t *testing.T) {
	for _, c := range configs() {
		s := space.New(c)
		checkKeys(t, "Keys", s.Keys(), nil)
		want := []string{"", "\x00", "\x00\x00", "\x01", "0", "10", "9", "A", "B", "a", "a\x00", "aa", "ab", "b", "z", "\x7f", "\x80", "é", "世", "\xff", "\xff\xff"}
		for at := range want {
			checkMake(t, s, want[at*8%len(want)], 0, api.OK)
		}
		checkKeys(t, "Keys", s.Keys(), want)
		for at, key := range want {
			checkIs(t, "Delete", s.Delete(key), true)
			checkKeys(t, "Keys", s.Keys(), want[at+1:])
		}
	}
}

// P15.3: the size, written out, behind each kind of change.
func TestSize(t *testing.T) {
	s := space.New(config(2, 8, 0))
	checkSize(t, s, 64)
	set, _ := s.Make("key", 0)
	checkSize(t, s, 64+48+3+2)
	set.Add("ab", 1, 1)
	checkSize(t, s, 64+48+3+2+12)
	set.Add("", 1, 1)
	checkSize(t, s, 64+48+3+2+12+10)
	set.Add("abc", 1, 5)
	checkSize(t, s, 64+48+3+3*64+10)
	set.Remove("abc")
	checkSize(t, s, 64+48+3+2*64+4)
	checkMake(t, s, "", 0, api.OK)
	checkSize(t, s, 64+2*48+3+2*64+4+2)
	s.Touch("key", 0, 0)
	checkMake(t, s, "key", 0, api.OK)
	checkSize(t, s, 64+2*48+3+2*64+4+2)
	checkErr(t, "Rename", s.Rename("key", "a key"), api.OK)
	checkSize(t, s, 64+2*48+5+2*64+4+2)
	checkErr(t, "Rename", s.Rename("", "a key"), api.OK)
	checkSize(t, s, 64+48+5+2)
	set.Add("into what is gone", 1, 1)
	checkSize(t, s, 64+48+5+2)
	checkPut(t, s, "b", []api.Entry{entry("m", 1)}, 0, api.OK)
	checkSize(t, s, 64+2*48+6+2+2+11)
	checkIs(t, "Tidy", s.Tidy("b"), false)
	checkIs(t, "Tidy", s.Tidy("a key"), true)
	checkSize(t, s, 64+48+1+2+11)
	checkMake(t, s, long(65), 0, api.ErrKey)
	checkMake(t, s, "new", -1, api.ErrLfu)
	checkSize(t, s, 64+48+1+2+11)
	checkIs(t, "Delete", s.Delete("b"), true)
	checkSize(t, s, 64)
}

// P15.3: the greatest spaces' size: 500 keys of 64 bytes.
func TestSizeFull(t *testing.T) {
	b := newBoth(t, config(200, 64, 0))
	for n := range 500 {
		b.make(fmt.Sprintf("%064d", n), 0)
	}
	checkSize(t, b.s, 64+500*(48+64+2))
	b.all()
}

// P15.3: behind Flush there is no key, the dict is a new one, and all may be done again.
func TestFlush(t *testing.T) {
	for _, n := range []int{0, 1, 5, 9, 100, 500} {
		b := filled(t, config(3, 64, 6), n)
		old, there := b.s.Find(name(0))
		b.flush()
		checkKeys(t, "Keys", b.s.Keys(), nil)
		checkSize(t, b.s, 64)
		if steps := b.s.Step(mostSlots); steps != 0 {
			t.Fatalf("behind Flush of %d keys Step is %d", n, steps)
		}
		told, cursor := b.s.Scan(0)
		checkKeys(t, "Scan", told, nil)
		// A new dict has 4 slots, so that the cursor 2 follows 0.
		if cursor != 2 {
			t.Fatalf("behind Flush of %d keys the cursor behind 0 is %d", n, cursor)
		}
		if there {
			old.Add("into what is gone", 1, 1)
		}
		b.delete(name(0))
		b.tidy(name(0))
		b.rename(name(0), "to")
		b.touch(name(0), 1, 0)
		b.all()
		for k := range 20 {
			b.make(name(k), 1)
			b.add(name(k), entry("m", 2))
		}
		b.all()
		b.flush()
		b.flush()
	}
}

// checkTwin holds a space's scan against that of a dict to which the same was done as to its own.
func checkTwin(t *testing.T, s *space.Space, d *dict.Dict[int]) {
	t.Helper()
	for _, cursor := range []uint32{0, 1, 2, 3, 4, 5, 6, 7, 8, 15, 16, 31, 100, 255, 1 << 16, 1 << 31, mostDraw} {
		told, next := s.Scan(cursor)
		want, wantNext := scan.Scan(d, cursor)
		if !slices.Equal(told, want) || next != wantNext {
			t.Fatalf("Scan(%d) is %q, %d, not %q, %d", cursor, told, next, want, wantNext)
		}
	}
}

// P15.3: Scan and Step are those of a dict of the configuration's seed that has the same keys.
func TestTwin(t *testing.T) {
	for _, seed := range []uint32{0, 1, 0x9e3779b9, mostDraw} {
		r := rand.New(rand.NewPCG(15, uint64(seed)))
		s, d := space.New(config(200, 64, seed)), dict.New[int](seed)
		for n := range 2000 {
			key := name(r.IntN(1 + 30*(1+n%500/100)))
			_, there := s.Find(key)
			switch {
			case n%700 == 699:
				s.Flush()
				d = dict.New[int](seed)
			case r.IntN(10) == 0:
				steps := r.IntN(4) - 1
				if moved, want := s.Step(steps), d.Step(steps); moved != want {
					t.Fatalf("Step(%d) is %d, not %d", steps, moved, want)
				}
			case there:
				checkIs(t, "Delete", s.Delete(key), true)
				d.Delete(key)
			default:
				checkMake(t, s, key, n, api.OK)
				d.Set(key, n)
			}
			checkTwin(t, s, d)
		}
	}
}

// P15.3: Step moves at most so many slots, as long as the dict is moving; none is moved where it is not, or for 0 and less.
func TestStep(t *testing.T) {
	s := space.New(config(200, 64, 0))
	steps := func(n int, want int) {
		t.Helper()
		if moved := s.Step(n); moved != want {
			t.Fatalf("Step(%d) is %d, not %d", n, moved, want)
		}
	}
	for n := range 4 {
		checkMake(t, s, name(n), 0, api.OK)
		steps(100, 0)
	}
	checkMake(t, s, name(4), 0, api.OK)
	for _, n := range []int{0, -1, math.MinInt} {
		steps(n, 0)
	}
	steps(1, 1)
	steps(2, 2)
	steps(math.MaxInt, 1)
	steps(100, 0)
	var want []string
	for n := 5; n < 500; n++ {
		checkMake(t, s, name(n), 0, api.OK)
	}
	for n := range 500 {
		want = append(want, name(n))
	}
	s.Step(mostSlots)
	steps(1, 0)
	slices.Sort(want)
	checkKeys(t, "Keys", s.Keys(), want)
}

// P15.3: what a scan tells, of few keys and of many, with and without Step between: all that is there, each once.
func TestScanStill(t *testing.T) {
	for _, n := range []int{0, 1, 4, 5, 6, 8, 9, 17, 100, 257, 500} {
		for _, steps := range []int{0, 1, 3, mostSlots} {
			b := filled(t, config(200, 64, uint32(n)), n)
			told, cursor := b.s.Scan(0)
			for calls := 0; cursor != 0 && calls < mostCalls; calls++ {
				b.s.Step(steps)
				var more []string
				more, cursor = b.s.Scan(cursor)
				told = append(told, more...)
			}
			slices.Sort(told)
			checkKeys(t, "Scan of all, in order", slices.Compact(told), b.m.keys())
			b.all()
		}
	}
}

// P15.3: what is there all the time is told, whatever comes, goes and moves between, and all that is told is there then.
func TestScanChanges(t *testing.T) {
	for seed := range uint64(60) {
		r := rand.New(rand.NewPCG(15, 100+seed))
		b := filled(t, config(200, 64, uint32(seed)), r.IntN(120))
		var stays []string
		for k := range 20 {
			stays = append(stays, fmt.Sprintf("stays %d", k))
			b.make(stays[k], 0)
		}
		told := map[string]int{}
		cursor := uint32(0)
		for calls := 0; calls == 0 || cursor != 0; calls++ {
			var l []string
			l, cursor = b.s.Scan(cursor)
			for _, key := range l {
				told[key]++
				if b.m.things[key] == nil {
					t.Fatalf("Scan tells %q, which is not there", key)
				}
			}
			for range r.IntN(6) {
				b.change(r, name(r.IntN(150)), name(r.IntN(150)))
			}
			if calls > mostCalls {
				t.Fatal("a scan doesn't come back to 0")
			}
		}
		for _, key := range stays {
			if told[key] == 0 {
				t.Fatalf("the scan %d doesn't tell %q, which is there all the time", seed, key)
			}
		}
	}
}

// change does something to a key, and maybe to another one.
func (b both) change(r *rand.Rand, key string, other string) {
	b.t.Helper()
	switch r.IntN(12) {
	case 0, 1, 2:
		b.make(key, r.IntN(100)-9)
	case 3, 4:
		b.put(key, entries(r), r.IntN(100)-9)
	case 5, 6:
		b.delete(key)
	case 7:
		b.tidy(key)
	case 8:
		b.rename(key, other)
	case 9:
		b.touch(key, r.IntN(100)-9, uint32(r.IntN(30)))
	case 10:
		b.s.Step(r.IntN(5) - 1)
		b.count()
	case 11:
		if b.m.things[key] != nil {
			b.add(key, entry(name(r.IntN(9)), int64(r.IntN(5))))
		}
	}
}

// entries are a few, some of the same members, some of members that are too long.
func entries(r *rand.Rand) []api.Entry {
	var l []api.Entry
	for range r.IntN(6) {
		l = append(l, entry(name(r.IntN(7)), int64(r.IntN(7)-3)))
		if r.IntN(9) == 0 {
			l = append(l, entry(long(60+r.IntN(9)), 1))
		}
	}
	return l
}

// P15.4: what is done to one key touches no other one, in its set, its use, its place; the size is that of what is there.
func TestAnythingGoes(t *testing.T) {
	for seed, c := range configs() {
		for _, many := range []int{3, 12, 60, 700} {
			r := rand.New(rand.NewPCG(15, uint64(1000*seed+many)))
			b := newBoth(t, c)
			for n := range 1500 {
				key := name(r.IntN(many))
				if r.IntN(40) == 0 {
					key = long(62 + r.IntN(5))
				}
				b.change(r, key, name(r.IntN(many)))
				b.one(key)
				if n%(1+many/4) == 0 {
					b.all()
				}
				if r.IntN(500) == 0 {
					b.flush()
				}
			}
			b.all()
		}
	}
}

// P15.4: the sets of two keys, and of one key in two spaces, are no other's.
func TestApart(t *testing.T) {
	for _, c := range configs() {
		a, b := filled(t, c, 12), filled(t, c, 12)
		for k := range 12 {
			a.add(name(k), entry(name(k), 5))
			a.touch(name(k), 40+k, 1)
			a.all()
		}
		b.all()
		a.put(name(3), []api.Entry{entry("x", 1)}, 1)
		a.delete(name(4))
		a.rename(name(5), name(6))
		a.all()
		b.all()
	}
}

// P15.1, P15.2, P15.3: each call of a nil space.
func TestNil(t *testing.T) {
	var s *space.Space
	for _, key := range []string{"", "k", long(64), long(65)} {
		for _, now := range []int{0, 5, -1} {
			checkMake(t, s, key, now, api.ErrNil)
			checkPut(t, s, key, nil, now, api.ErrNil)
			checkPut(t, s, key, []api.Entry{entry("m", 1)}, now, api.ErrNil)
			checkErr(t, "Touch", s.Touch(key, now, 0), api.ErrNil)
		}
		if set, there := s.Find(key); set != nil || there {
			t.Error("Find", set, there)
		}
		checkUse(t, s, key, use(0, 0), false)
		checkIs(t, "Delete", s.Delete(key), false)
		checkIs(t, "Tidy", s.Tidy(key), false)
		checkErr(t, "Rename", s.Rename(key, "to"), api.ErrNil)
		checkErr(t, "Rename", s.Rename(key, long(65)), api.ErrNil)
		checkErr(t, "Rename", s.Rename(key, key), api.ErrNil)
	}
	s.Flush()
	checkKeys(t, "Keys", s.Keys(), nil)
	if s.Len() != 0 || s.Size() != 0 {
		t.Error("Len, Size", s.Len(), s.Size())
	}
	for _, cursor := range []uint32{0, 1, mostDraw} {
		if told, next := s.Scan(cursor); len(told) != 0 || next != 0 {
			t.Error("Scan", told, next)
		}
	}
	for _, n := range []int{-1, 0, 1, math.MaxInt} {
		if s.Step(n) != 0 {
			t.Error("Step", n)
		}
	}
}

// same holds two spaces against each other in all that can be told, their dicts' slots too.
func same(t *testing.T, a *space.Space, b *space.Space) {
	t.Helper()
	checkKeys(t, "Keys", a.Keys(), b.Keys())
	for cursor := range uint32(300) {
		told, next := a.Scan(cursor)
		want, wantNext := b.Scan(cursor)
		if !slices.Equal(told, want) || next != wantNext {
			t.Fatalf("Scan(%d) is %q, %d, not %q, %d", cursor, told, next, want, wantNext)
		}
	}
	if a.Len() != b.Len() || a.Size() != b.Size() {
		t.Fatalf("Len and Size are %d, %d, not %d, %d", a.Len(), a.Size(), b.Len(), b.Size())
	}
	for _, key := range a.Keys() {
		u, _ := b.Use(key)
		checkUse(t, a, key, u, true)
		set, _ := a.Find(key)
		other, _ := b.Find(key)
		if !slices.Equal(set.Range(0, 400), other.Range(0, 400)) || set.Encoding() != other.Encoding() {
			t.Fatalf("the sets of %q are not the same", key)
		}
	}
	if moved, want := a.Step(mostSlots), b.Step(mostSlots); moved != want {
		t.Fatalf("%d slots were left to be moved, not %d", moved, want)
	}
}

// R2, P15.2: a call that tells an error changes nothing, while the dict moves too; nor does one that only reads, makes or deletes nothing, or renames a key to itself.
func TestNothingChanged(t *testing.T) {
	for _, n := range []int{0, 1, 4, 5, 6, 7, 9, 10, 11, 17, 20, 40, 70, 140, 260, 300, 500} {
		a, b := filled(t, config(3, 64, 8), n), filled(t, config(3, 64, 8), n)
		s := a.s
		for range 3 {
			checkMake(t, s, long(65), 1, api.ErrKey)
			checkMake(t, s, "new", -1, api.ErrLfu)
			checkPut(t, s, long(65), nil, 1, api.ErrKey)
			checkPut(t, s, "new", []api.Entry{entry("m", 1)}, -1, api.ErrLfu)
			checkErr(t, "Rename", s.Rename("new", "to"), api.ErrNoKey)
			checkErr(t, "Touch", s.Touch("new", 1, 0), api.ErrNoKey)
			if n > 0 {
				checkErr(t, "Rename", s.Rename(name(n-1), long(65)), api.ErrKey)
				checkErr(t, "Touch", s.Touch(name(n-1), -1, 0), api.ErrLfu)
				checkErr(t, "Rename", s.Rename(name(n-1), name(n-1)), api.OK)
				checkMake(t, s, name(n-1), 1, api.OK)
			}
			checkIs(t, "Delete", s.Delete("new"), false)
			checkIs(t, "Tidy", s.Tidy("new"), false)
			if n == 500 {
				checkMake(t, s, "new", 1, api.ErrFull)
				checkPut(t, s, "new", nil, 1, api.ErrFull)
			}
			a.all()
			for key := range a.m.things {
				a.one(key)
			}
		}
		same(t, a.s, b.s)
	}
}

// R2: the same behind deleted keys, where the dict moves into a lesser table.
func TestNothingChangedShrinking(t *testing.T) {
	for _, left := range []int{0, 1, 2, 5, 9, 20, 40, 60, 61, 62, 63, 64, 69} {
		a, b := filled(t, config(3, 64, 9), 300), filled(t, config(3, 64, 9), 300)
		for _, x := range []both{a, b} {
			x.s.Step(mostSlots)
			for k := left; k < 300; k++ {
				x.s.Delete(name(k))
				x.m.delete(name(k))
			}
		}
		if left > 0 {
			checkErr(t, "Touch", a.s.Touch(name(0), -1, 0), api.ErrLfu)
			checkErr(t, "Rename", a.s.Rename(name(0), long(65)), api.ErrKey)
		}
		checkMake(t, a.s, "new", -1, api.ErrLfu)
		checkErr(t, "Touch", a.s.Touch("new", 1, 0), api.ErrNoKey)
		a.all()
		same(t, a.s, b.s)
	}
}

// R3: what Put is given stays, its spare room too, and is not kept.
func TestGivenStays(t *testing.T) {
	for _, c := range configs() {
		b := newBoth(t, c)
		room := []api.Entry{entry("c", 3), entry("a", 1), entry(long(65), 1), entry("a", 2), entry("b", 0), entry("spare", 7), entry("room", 8)}
		was := slices.Clone(room)
		for n := range 6 {
			b.put("k", room[:n], 1)
			b.put("k", room[:n], 1)
			b.put(name(n), room[:n], 1)
			if !slices.Equal(room, was) {
				t.Fatalf("Put of %d has written into what it was given: %v", n, room)
			}
		}
		for at := range room {
			room[at] = entry("changed", -1)
		}
		b.all()
	}
}

// R3: what is answered is new memory, spare room too.
func TestAnswersNew(t *testing.T) {
	for _, n := range []int{1, 5, 30, 500} {
		b := filled(t, config(200, 64, 3), n)
		spoil := func(l []string) {
			l = l[:cap(l)]
			for at := range l {
				l[at] = "spoilt"
			}
		}
		spoil(b.s.Keys())
		b.all()
		for cursor := range uint32(40) {
			told, _ := b.s.Scan(cursor)
			spoil(told)
		}
		b.all()
		one, other := b.s.Keys(), b.s.Keys()
		spoil(one)
		checkKeys(t, "Keys", other, b.m.keys())
	}
}
