package dict_test

import (
	"fmt"
	"maps"
	"math"
	"math/rand/v2"
	"slices"
	"strconv"
	"strings"
	"testing"
	"time"

	"palio/api"
	"palio/dict"
	"palio/hash"
)

const most = math.MaxUint32

// stand is where a key stands, and its thing.
type stand struct {
	table int
	thing int
}

// model goes by the document's words: each key tells its table, its slot is reckoned.
type model struct {
	seed  uint32
	keys  map[string]stand
	sizes [2]int
	place int
}

func newModel(seed uint32) *model {
	return &model{seed: seed, keys: map[string]stand{}, sizes: [2]int{4, 0}}
}

func (m *model) moving() bool { return m.sizes[1] > 0 }

func (m *model) slot(key string, table int) int {
	return int(hash.Sum(m.seed, key) % uint32(m.sizes[table]))
}

func (m *model) step(n int) int {
	moved := 0
	for ; moved < n && m.moving(); moved++ {
		for key, s := range m.keys {
			if s.table == 0 && m.slot(key, 0) == m.place {
				m.keys[key] = stand{1, s.thing}
			}
		}
		m.place++
		if m.place == m.sizes[0] {
			for key, s := range m.keys {
				m.keys[key] = stand{0, s.thing}
			}
			m.sizes, m.place = [2]int{m.sizes[1], 0}, 0
		}
	}
	return moved
}

func sizeFor(n int) int {
	size := 4
	for size < n && size < 65536 {
		size *= 2
	}
	return size
}

func (m *model) set(key string, v int) bool {
	m.step(1)
	if s, ok := m.keys[key]; ok {
		m.keys[key] = stand{s.table, v}
		return false
	}
	if n := len(m.keys); !m.moving() && n >= m.sizes[0] && m.sizes[0] < 65536 {
		m.sizes[1] = sizeFor(2 * n)
	}
	table := 0
	if m.moving() {
		table = 1
	}
	m.keys[key] = stand{table, v}
	return true
}

func (m *model) get(key string) (int, bool) {
	m.step(1)
	s, ok := m.keys[key]
	return s.thing, ok
}

func (m *model) delete(key string) bool {
	m.step(1)
	_, ok := m.keys[key]
	delete(m.keys, key)
	if n := len(m.keys); ok && !m.moving() && m.sizes[0] > 4 && 8*n < m.sizes[0] {
		m.sizes[1] = sizeFor(n)
	}
	return ok
}

// buckets are all slots' keys, in the order of their bytes.
func (m *model) buckets() [2][][]string {
	var l [2][][]string
	for table, size := range m.sizes {
		l[table] = make([][]string, size)
	}
	for key, s := range m.keys {
		slot := m.slot(key, s.table)
		l[s.table][slot] = append(l[s.table][slot], key)
	}
	for _, slots := range l {
		for _, keys := range slots {
			slices.Sort(keys)
		}
	}
	return l
}

// both are a dict and its model, to which the same is done.
type both struct {
	t *testing.T
	d *dict.Dict[int]
	m *model
}

func newBoth(t *testing.T, seed uint32) both {
	return both{t, dict.New[int](seed), newModel(seed)}
}

func (b both) set(key string, v int) {
	b.t.Helper()
	if is, want := b.d.Set(key, v), b.m.set(key, v); is != want {
		b.t.Errorf("Set(%.40q) is %t", key, is)
	}
	b.sizes()
}

func (b both) get(key string) {
	b.t.Helper()
	v, is := b.d.Get(key)
	if w, want := b.m.get(key); v != w || is != want {
		b.t.Errorf("Get(%.40q) is %d, %t, not %d, %t", key, v, is, w, want)
	}
	b.sizes()
}

func (b both) delete(key string) {
	b.t.Helper()
	if is, want := b.d.Delete(key), b.m.delete(key); is != want {
		b.t.Errorf("Delete(%.40q) is %t", key, is)
	}
	b.sizes()
}

func (b both) step(n int) {
	b.t.Helper()
	if k, want := b.d.Step(n), b.m.step(n); k != want {
		b.t.Errorf("Step(%d) is %d, not %d", n, k, want)
	}
	b.sizes()
}

// sizes holds what is soon held; all, what each slot tells.
func (b both) sizes() {
	b.t.Helper()
	checkSizes(b.t, b.d, b.m.sizes[0], b.m.sizes[1], b.m.place)
	checkLen(b.t, b.d, len(b.m.keys))
}

func (b both) all() {
	b.t.Helper()
	b.sizes()
	for table, slots := range b.m.buckets() {
		for slot, keys := range slots {
			checkBucket(b.t, b.d, table, slot, keys...)
		}
	}
	b.sizes()
}

func checkSizes[V any](t *testing.T, d *dict.Dict[V], first int, second int, place int) {
	t.Helper()
	if a, b, at := d.Sizes(); a != first || b != second || at != place {
		t.Errorf("the sizes are %d, %d, %d, not %d, %d, %d", a, b, at, first, second, place)
	}
}

func checkLen[V any](t *testing.T, d *dict.Dict[V], want int) {
	t.Helper()
	if n := d.Len(); n != want {
		t.Errorf("there are %d keys, not %d", n, want)
	}
}

func checkBucket[V any](t *testing.T, d *dict.Dict[V], table int, slot int, want ...string) {
	t.Helper()
	if l, e := d.Bucket(table, slot); !slices.Equal(l, want) || e != api.OK {
		t.Errorf("Bucket(%d, %d) is %.200q, %d, not %.200q", table, slot, l, e, want)
	}
}

func checkNoBucket[V any](t *testing.T, d *dict.Dict[V], table int, slot int) {
	t.Helper()
	if l, e := d.Bucket(table, slot); len(l) != 0 || e != api.ErrArg {
		t.Errorf("Bucket(%d, %d) is %.200q, %d, not ErrArg", table, slot, l, e)
	}
}

func checkSet[V any](t *testing.T, d *dict.Dict[V], key string, v V, want bool) {
	t.Helper()
	if is := d.Set(key, v); is != want {
		t.Errorf("Set(%.40q) is %t", key, is)
	}
}

func checkGet[V comparable](t *testing.T, d *dict.Dict[V], key string, want V, is bool) {
	t.Helper()
	if v, ok := d.Get(key); v != want || ok != is {
		t.Errorf("Get(%.40q) is %v, %t, not %v, %t", key, v, ok, want, is)
	}
}

func checkDelete[V any](t *testing.T, d *dict.Dict[V], key string, want bool) {
	t.Helper()
	if is := d.Delete(key); is != want {
		t.Errorf("Delete(%.40q) is %t", key, is)
	}
}

func checkStep[V any](t *testing.T, d *dict.Dict[V], n int, want int) {
	t.Helper()
	if k := d.Step(n); k != want {
		t.Errorf("Step(%d) is %d, not %d", n, k, want)
	}
}

// checkEdges holds that what is no slot is refused, at both ends of both tables.
func checkEdges[V any](t *testing.T, d *dict.Dict[V]) {
	t.Helper()
	first, second, _ := d.Sizes()
	for _, slot := range []int{math.MinInt, -65536, -4, -2, -1, 0, 1, 3, 4, 5, 8, first - 1, first, first + 1, second - 1, second, second + 1, 2 * first, 65535, 65536, 1 << 32, math.MaxInt} {
		for table, size := range []int{first, second} {
			if slot < 0 || slot >= size {
				checkNoBucket(t, d, table, slot)
			} else if _, e := d.Bucket(table, slot); e != api.OK {
				t.Errorf("Bucket(%d, %d) tells %d", table, slot, e)
			}
		}
		for _, table := range []int{math.MinInt, math.MinInt32, -2, -1, 2, 3, 4, 256, 1 << 32, 1<<32 + 1, math.MaxInt} {
			checkNoBucket(t, d, table, slot)
		}
	}
}

// listed are the keys of all slots, slot by slot.
func listed[V any](t *testing.T, d *dict.Dict[V]) []string {
	t.Helper()
	var l []string
	first, second, _ := d.Sizes()
	for table, size := range []int{first, second} {
		for slot := range size {
			keys, e := d.Bucket(table, slot)
			if e != api.OK || !slices.IsSorted(keys) {
				t.Errorf("Bucket(%d, %d) is %.200q, %d", table, slot, keys, e)
			}
			l = append(l, keys...)
		}
	}
	return l
}

func seeds() []uint32 {
	return []uint32{0, 1, 2, 7, 0x9e3779b9, 2166136261, 1 << 31, most}
}

func oddKeys() []string {
	return []string{"", "\x00", "\x00\x00", "a", "a\x00", "\x00a", "a\x00b", "A", "aa", "ab", "\x7f", "\x80", "\x80\x80", "\xff", "\xff\xff", "\xff\x00", "\xed\xa0\x80", "é", "e", "世界", "\r\n", " ", "0", "00", "-1", strings.Repeat("x", 64), strings.Repeat("x", 65), strings.Repeat("x", 100000), strings.Repeat("x", 100000) + "y"}
}

// filled is a dict of the keys "0", "1", .., each its number, that is not moving.
func filled(seed uint32, n int) *dict.Dict[int] {
	d := dict.New[int](seed)
	for i := range n {
		d.Set(strconv.Itoa(i), i)
	}
	d.Step(math.MaxInt)
	return d
}

// filledBoth is the same with its model.
func filledBoth(t *testing.T, seed uint32, n int) both {
	b := newBoth(t, seed)
	for i := range n {
		b.set(strconv.Itoa(i), i)
	}
	b.step(math.MaxInt)
	return b
}

// P7.1, P7.2: a new dict is empty, whatever the seed.
func TestNew(t *testing.T) {
	for _, seed := range seeds() {
		d := dict.New[int](seed)
		checkLen(t, d, 0)
		checkSizes(t, d, 4, 0, 0)
		for slot := range 4 {
			checkBucket(t, d, 0, slot)
		}
		checkEdges(t, d)
		for _, key := range oddKeys() {
			checkGet(t, d, key, 0, false)
			checkDelete(t, d, key, false)
		}
		checkStep(t, d, 5, 0)
		checkLen(t, d, 0)
		checkSizes(t, d, 4, 0, 0)
	}
}

// P7.1: keys that are there, and those that are not, are told so.
func TestSetGetDelete(t *testing.T) {
	d := dict.New[string](5)
	checkSet(t, d, "a", "one", true)
	checkLen(t, d, 1)
	checkGet(t, d, "a", "one", true)
	checkGet(t, d, "b", "", false)
	checkSet(t, d, "a", "two", false)
	checkLen(t, d, 1)
	checkGet(t, d, "a", "two", true)
	checkSet(t, d, "a", "", false)
	checkGet(t, d, "a", "", true)
	checkSet(t, d, "b", "three", true)
	checkLen(t, d, 2)
	checkDelete(t, d, "c", false)
	checkLen(t, d, 2)
	checkDelete(t, d, "a", true)
	checkLen(t, d, 1)
	checkGet(t, d, "a", "", false)
	checkGet(t, d, "b", "three", true)
	checkDelete(t, d, "a", false)
	checkLen(t, d, 1)
	checkSet(t, d, "a", "four", true)
	checkLen(t, d, 2)
	checkGet(t, d, "a", "four", true)
	checkDelete(t, d, "b", true)
	checkDelete(t, d, "a", true)
	checkDelete(t, d, "a", false)
	checkLen(t, d, 0)
	checkSizes(t, d, 4, 0, 0)
}

// P7.1: keys are told apart by all their bytes, each one.
func TestOddKeys(t *testing.T) {
	for _, seed := range seeds() {
		d, keys := dict.New[int](seed), oddKeys()
		for at, key := range keys {
			checkSet(t, d, key, at, true)
			checkSet(t, d, key, -at, false)
			checkLen(t, d, at+1)
			for other, key := range keys {
				v, ok := d.Get(key)
				if is := other <= at; ok != is || is && v != -other || !is && v != 0 {
					t.Errorf("behind %d keys Get(%.40q) is %d, %t", at+1, key, v, ok)
				}
			}
		}
		for n := range 256 {
			key := "k" + string([]byte{byte(n)})
			checkSet(t, d, key, n, true)
			checkSet(t, d, key[:1]+string([]byte{byte(n), 0}), -n, true)
		}
		for n := range 256 {
			checkGet(t, d, "k"+string([]byte{byte(n)}), n, true)
			checkGet(t, d, "k"+string([]byte{byte(n), 0}), -n, true)
			checkGet(t, d, "k"+string([]byte{byte(n), 1}), 0, false)
		}
		for at, key := range keys {
			checkGet(t, d, key, -at, true)
			checkDelete(t, d, key, true)
			checkGet(t, d, key, 0, false)
			checkDelete(t, d, key, false)
		}
		checkLen(t, d, 512)
	}
}

// P7.1: keys of one hash are two keys.
func TestSameHash(t *testing.T) {
	const seed = 11
	others, pairs := map[uint32]string{}, [][2]string(nil)
	for i := 0; len(pairs) < 5; i++ {
		key := "same" + strconv.Itoa(i)
		sum := hash.Sum(seed, key)
		if other, ok := others[sum]; ok {
			pairs = append(pairs, [2]string{other, key})
		}
		others[sum] = key
	}
	b := newBoth(t, seed)
	for at, pair := range pairs {
		b.set(pair[0], at)
		b.get(pair[1])
		b.set(pair[1], at+100)
		b.get(pair[0])
		b.get(pair[1])
		b.all()
	}
	for _, pair := range pairs {
		b.delete(pair[1])
		b.get(pair[0])
		b.get(pair[1])
		b.set(pair[1], 7)
		b.delete(pair[0])
		b.get(pair[0])
		b.get(pair[1])
		b.all()
	}
}

// checkThings holds that things of a type are got as they were set, while a dict grows, moves and shrinks.
func checkThings[V comparable](t *testing.T, things ...V) {
	t.Helper()
	var none V
	d := dict.New[V](3)
	for i := range 300 {
		key := strconv.Itoa(i)
		checkSet(t, d, key, things[i%len(things)], true)
		checkSet(t, d, key, things[(i+1)%len(things)], false)
		checkGet(t, d, strconv.Itoa(i/2), things[(i/2+1)%len(things)], true)
		checkGet(t, d, "no", none, false)
	}
	for i := range 290 {
		checkDelete(t, d, strconv.Itoa(i), true)
		checkGet(t, d, strconv.Itoa(i), none, false)
	}
	for i := 290; i < 300; i++ {
		checkGet(t, d, strconv.Itoa(i), things[(i+1)%len(things)], true)
	}
}

type pair struct {
	name string
	l    *[]int
}

// P7.1: things of several types.
func TestThings(t *testing.T) {
	checkThings(t, 1, -1, 0, math.MinInt)
	checkThings(t, "a", "", "\x00", strings.Repeat("z", 1000))
	checkThings(t, true, false)
	checkThings(t, 1.5, math.Inf(-1), 0)
	checkThings(t, 1+2i, -3i)
	checkThings(t, struct{}{})
	checkThings(t, [3]int{1, 2, 3}, [3]int{})
	checkThings(t, &pair{}, &pair{"a", nil}, nil)
	checkThings(t, pair{"a", &[]int{1}}, pair{}, pair{"b", nil})
	checkThings[any](t, 1, "a", nil, pair{}, struct{}{}, api.OK)
	checkThings[error](t, nil, fmt.Errorf("wrong"))
	checkThings(t, make(chan int), make(chan int), nil)
	checkThings(t, dict.New[int](1), nil)
}

// P7.1: things that can't be held against each other, and that are the very ones that were set.
func TestThingsKept(t *testing.T) {
	lists, list := dict.New[[]int](0), []int{1, 2}
	checkSet(t, lists, "a", list, true)
	checkSet(t, lists, "b", nil, true)
	list[0] = 7
	if l, ok := lists.Get("a"); !slices.Equal(l, []int{7, 2}) || !ok || &l[0] != &list[0] {
		t.Errorf("it is %v, %t", l, ok)
	}
	if l, ok := lists.Get("b"); l != nil || !ok {
		t.Errorf("it is %v, %t", l, ok)
	}
	functions := dict.New[func() int](0)
	checkSet(t, functions, "a", func() int { return 5 }, true)
	checkSet(t, functions, "a", func() int { return 6 }, false)
	if f, ok := functions.Get("a"); !ok || f() != 6 {
		t.Errorf("%t", ok)
	}
	if f, ok := functions.Get("b"); ok || f != nil {
		t.Errorf("%t", ok)
	}
	numbers := dict.New[float64](0)
	checkSet(t, numbers, "a", math.NaN(), true)
	if n, ok := numbers.Get("a"); !ok || !math.IsNaN(n) {
		t.Errorf("it is %v, %t", n, ok)
	}
	checkSet(t, numbers, "a", 2, false)
	checkGet(t, numbers, "a", 2, true)
	mixed := dict.New[any](0)
	checkSet[any](t, mixed, "a", []int{1}, true)
	checkSet[any](t, mixed, "a", map[string]int{}, false)
	checkDelete(t, mixed, "a", true)
}

// P7.2: the sizes and the place, written out, behind each act of a dict that grows.
func TestGrow(t *testing.T) {
	for _, seed := range seeds() {
		d := dict.New[int](seed)
		for at, key := range []string{"a", "b", "c", "d"} {
			checkSet(t, d, key, at, true)
			checkSizes(t, d, 4, 0, 0)
		}
		checkSet(t, d, "a", 9, false)
		checkSizes(t, d, 4, 0, 0)
		checkSet(t, d, "e", 5, true)
		checkSizes(t, d, 4, 8, 0)
		checkSet(t, d, "f", 6, true)
		checkSizes(t, d, 4, 8, 1)
		checkSet(t, d, "a", 1, false)
		checkSizes(t, d, 4, 8, 2)
		checkGet(t, d, "no", 0, false)
		checkSizes(t, d, 4, 8, 3)
		checkLen(t, d, 6)
		checkDelete(t, d, "no", false)
		checkSizes(t, d, 8, 0, 0)
		checkSet(t, d, "g", 7, true)
		checkSet(t, d, "h", 8, true)
		checkSizes(t, d, 8, 0, 0)
		checkSet(t, d, "i", 9, true)
		checkSizes(t, d, 8, 16, 0)
		for at := 1; at < 8; at++ {
			checkStep(t, d, 1, 1)
			checkSizes(t, d, 8, 16, at)
		}
		checkStep(t, d, 1, 1)
		checkSizes(t, d, 16, 0, 0)
		checkStep(t, d, 1, 0)
		checkSizes(t, d, 16, 0, 0)
	}
}

// P7.2: each act moves one slot, whether its key is there or not; what only tells moves none.
func TestOneSlotEach(t *testing.T) {
	acts := map[string]func(d *dict.Dict[int]){
		"Set, new":       func(d *dict.Dict[int]) { checkSet(t, d, "new", 1, true) },
		"Set, there":     func(d *dict.Dict[int]) { checkSet(t, d, "3", 1, false) },
		"Get, there":     func(d *dict.Dict[int]) { checkGet(t, d, "3", 3, true) },
		"Get, none":      func(d *dict.Dict[int]) { checkGet(t, d, "no", 0, false) },
		"Delete, there":  func(d *dict.Dict[int]) { checkDelete(t, d, "3", true) },
		"Delete, none":   func(d *dict.Dict[int]) { checkDelete(t, d, "no", false) },
		"Step of 1":      func(d *dict.Dict[int]) { checkStep(t, d, 1, 1) },
		"Set, the empty": func(d *dict.Dict[int]) { checkSet(t, d, "", 1, true) },
	}
	for name, act := range acts {
		d := filled(2, 64)
		checkSet(t, d, "65th", 1, true)
		for place := range 63 {
			checkSizes(t, d, 64, 128, place)
			d.Len()
			d.Bucket(0, 63)
			d.Bucket(1, 0)
			d.Bucket(2, 0)
			d.Sizes()
			checkSizes(t, d, 64, 128, place)
			checkStep(t, d, 1, 1)
		}
		checkSizes(t, d, 64, 128, 63)
		act(d)
		checkSizes(t, d, 128, 0, 0)
		d = filled(2, 64)
		checkSet(t, d, "65th", 1, true)
		act(d)
		if _, _, place := d.Sizes(); place != 1 {
			t.Errorf("%s: the place is %d", name, place)
		}
	}
}

// P7.2: what is done moves nothing, as long as it begins no move.
func TestNoSlotWhileNotMoving(t *testing.T) {
	d := filled(1, 20)
	for i := range 20 {
		checkGet(t, d, strconv.Itoa(i), i, true)
		checkSet(t, d, strconv.Itoa(i), -i, false)
		checkGet(t, d, "no", 0, false)
		checkDelete(t, d, "no", false)
		checkStep(t, d, 3, 0)
		checkSizes(t, d, 32, 0, 0)
	}
}

// tableOf is the table that a key stands in, and in which slot.
func tableOf(t *testing.T, d *dict.Dict[int], key string) (int, int) {
	t.Helper()
	first, second, _ := d.Sizes()
	found, table, at := 0, -1, -1
	for i, size := range []int{first, second} {
		for slot := range size {
			if l, _ := d.Bucket(i, slot); slices.Contains(l, key) {
				found, table, at = found+1, i, slot
			}
		}
	}
	if found != 1 {
		t.Errorf("%q is in %d slots", key, found)
	}
	return table, at
}

// P7.2: while it moves, a new key stands in the second table, one that is there where it stood, until its slot is moved.
func TestWhereKeysStand(t *testing.T) {
	for _, seed := range seeds() {
		b := filledBoth(t, seed, 32)
		b.set("new", 1)
		checkSizes(t, b.d, 32, 64, 0)
		if table, slot := tableOf(t, b.d, "new"); table != 1 || slot != int(hash.Sum(seed, "new")%64) {
			t.Errorf("the key that began it is in table %d, slot %d", table, slot)
		}
		for place := 1; place < 32; place++ {
			for i := range 32 {
				key := strconv.Itoa(i)
				table, slot := tableOf(t, b.d, key)
				want, size := 0, uint32(32)
				if hash.Sum(seed, key)%32 < uint32(place-1) {
					want, size = 1, 64
				}
				if table != want || slot != int(hash.Sum(seed, key)%size) {
					t.Errorf("at %d %s is in table %d, slot %d, not %d", place-1, key, table, slot, want)
				}
			}
			b.set("7", place)
			b.all()
			if table, _ := tableOf(t, b.d, "7"); table == 0 && hash.Sum(seed, "7")%32 < uint32(place) {
				t.Errorf("at %d 7 is in table 0", place)
			}
		}
		b.step(1)
		b.all()
	}
	b := filledBoth(t, 4, 64)
	for i := range 63 {
		key := "new" + strconv.Itoa(i)
		b.set(key, i)
		if table, slot := tableOf(t, b.d, key); table != 1 || slot != int(hash.Sum(4, key)%128) {
			t.Errorf("%s is in table %d, slot %d", key, table, slot)
		}
	}
	b.step(1)
	checkSizes(t, b.d, 64, 128, 63)
	b.set("last", 1)
	checkSizes(t, b.d, 128, 0, 0)
	if table, slot := tableOf(t, b.d, "last"); table != 0 || slot != int(hash.Sum(4, "last")%128) {
		t.Errorf("last is in table %d, slot %d", table, slot)
	}
	b.all()
	b.set("one more", 1)
	checkSizes(t, b.d, 128, 256, 0)
}

// P7.2: a slot that is moved is empty, those ahead of the place too, and its keys are in the second table.
func TestMovedSlots(t *testing.T) {
	b := filledBoth(t, 6, 128)
	b.set("new", 1)
	for place := range 128 {
		moved, _ := b.d.Bucket(0, place)
		b.step(1)
		if place == 127 {
			break
		}
		checkBucket(t, b.d, 0, place)
		for _, key := range moved {
			l, _ := b.d.Bucket(1, int(hash.Sum(6, key)%256))
			if !slices.Contains(l, key) {
				t.Errorf("%s is not there: %q", key, l)
			}
		}
		b.all()
	}
	checkSizes(t, b.d, 256, 0, 0)
	b.all()
}

// P7.2: when just fewer than an eighth as many keys as slots are left, it moves into a lesser table.
func TestShrink(t *testing.T) {
	for _, seed := range seeds()[:3] {
		for _, c := range []struct{ keys, size, left, lesser int }{
			{5, 8, 0, 4}, {8, 8, 0, 4}, {9, 16, 1, 4}, {16, 16, 1, 4}, {17, 32, 3, 4}, {33, 64, 7, 8}, {65, 128, 15, 16}, {100, 128, 15, 16}, {129, 256, 31, 32}, {1000, 1024, 127, 128}, {3000, 4096, 511, 512},
		} {
			d := filled(seed, c.keys)
			checkSizes(t, d, c.size, 0, 0)
			for i := range c.keys - c.left - 1 {
				checkDelete(t, d, strconv.Itoa(i), true)
				checkSizes(t, d, c.size, 0, 0)
			}
			for range 3 {
				checkDelete(t, d, "no", false)
				checkGet(t, d, "no", 0, false)
				checkSizes(t, d, c.size, 0, 0)
			}
			last := strconv.Itoa(c.keys - c.left - 1)
			checkDelete(t, d, last, true)
			checkSizes(t, d, c.size, c.lesser, 0)
			checkLen(t, d, c.left)
			checkDelete(t, d, last, false)
			checkSizes(t, d, c.size, c.lesser, 1)
			checkStep(t, d, math.MaxInt, c.size-1)
			checkSizes(t, d, c.lesser, 0, 0)
			checkLen(t, d, c.left)
			for i := c.keys - c.left; i < c.keys; i++ {
				checkGet(t, d, strconv.Itoa(i), i, true)
			}
		}
	}
}

// P7.2: no table is ever below the size 4, and an empty dict of it doesn't move.
func TestNeverBelowLeast(t *testing.T) {
	for n := range 40 {
		d := filled(9, n)
		for i := range n {
			checkDelete(t, d, strconv.Itoa(i), true)
			if a, b, _ := d.Sizes(); a < 4 || b != 0 && b < 4 {
				t.Errorf("behind %d of %d the sizes are %d, %d", i+1, n, a, b)
			}
		}
		d.Step(math.MaxInt)
		checkLen(t, d, 0)
		if a, b, _ := d.Sizes(); a > 16 || b != 0 {
			t.Errorf("of %d, deleted, the sizes are %d, %d", n, a, b)
		}
		for range 3 {
			checkDelete(t, d, "0", false)
		}
	}
	d := filled(9, 4)
	for i := range 4 {
		checkDelete(t, d, strconv.Itoa(i), true)
		checkSizes(t, d, 4, 0, 0)
	}
}

// P7.2: it begins to shrink by a key that was deleted alone, also by the one that ends a move.
func TestShrinkBehindMove(t *testing.T) {
	b := filledBoth(t, 3, 129)
	for i := range 98 {
		b.delete(strconv.Itoa(i))
	}
	checkSizes(t, b.d, 256, 32, 0)
	for i := 98; i < 128; i++ {
		b.delete(strconv.Itoa(i))
	}
	checkSizes(t, b.d, 256, 32, 30)
	checkLen(t, b.d, 1)
	b.step(math.MaxInt)
	checkSizes(t, b.d, 32, 0, 0)
	b.get("128")
	b.set("128", 1)
	b.delete("no")
	checkSizes(t, b.d, 32, 0, 0)
	b.delete("128")
	checkSizes(t, b.d, 32, 4, 0)
	b.step(31)
	checkSizes(t, b.d, 32, 4, 31)
	b.delete("no")
	checkSizes(t, b.d, 4, 0, 0)

	b = filledBoth(t, 3, 129)
	for i := range 98 {
		b.delete(strconv.Itoa(i))
	}
	for i := 98; i < 128; i++ {
		b.delete(strconv.Itoa(i))
	}
	b.step(225)
	checkSizes(t, b.d, 256, 32, 255)
	b.delete("128")
	checkSizes(t, b.d, 32, 4, 0)
	b.all()
}

// P7.2: where a move has left few keys, the next deleted one makes it move into a table for as many as are left.
func TestShrinkToKeys(t *testing.T) {
	for left, lesser := range map[int]int{0: 4, 1: 4, 3: 4, 4: 4, 5: 8, 7: 8, 8: 8, 9: 16, 15: 16, 16: 0, 17: 0} {
		b := filledBoth(t, 2, 1000)
		for i := range 1000 - left - 1 {
			b.delete(strconv.Itoa(i))
		}
		b.step(math.MaxInt)
		checkSizes(t, b.d, 128, 0, 0)
		b.delete("999")
		checkLen(t, b.d, left)
		checkSizes(t, b.d, 128, lesser, 0)
		b.all()
	}
}

// P7.2: it doesn't grow while it moves, whatever is set, and by a new key alone behind that.
func TestNoGrowthWhileMoving(t *testing.T) {
	b := filledBoth(t, 8, 1000)
	for i := range 873 {
		b.delete(strconv.Itoa(i))
	}
	checkSizes(t, b.d, 1024, 128, 0)
	for i := range 1023 {
		b.set("new"+strconv.Itoa(i), i)
		checkSizes(t, b.d, 1024, 128, i+1)
	}
	b.step(1)
	checkSizes(t, b.d, 128, 0, 0)
	checkLen(t, b.d, 1150)
	b.all()
	b.set("new1", 7)
	b.get("new2")
	b.delete("no")
	checkSizes(t, b.d, 128, 0, 0)
	b.set("another", 1)
	checkSizes(t, b.d, 128, 4096, 0)
	b.all()
	b.step(math.MaxInt)
	checkSizes(t, b.d, 4096, 0, 0)
	b.all()

	b = filledBoth(t, 8, 1000)
	for i := range 873 {
		b.delete(strconv.Itoa(i))
	}
	for i := range 1023 {
		b.set("new"+strconv.Itoa(i), i)
	}
	b.set("another", 1)
	checkSizes(t, b.d, 128, 4096, 0)
	b.all()
}

// P7.2: a table grows into one for twice as many as there are keys, not as slots.
func TestGrowByKeys(t *testing.T) {
	for n, second := range map[int]int{0: 0, 3: 0, 4: 8, 5: 16, 8: 16, 9: 32, 31: 64, 32: 64, 33: 128, 64: 128, 65: 256, 127: 256} {
		b := filledBoth(t, 1, 1000)
		for i := range 1000 {
			b.delete(strconv.Itoa(i))
		}
		b.step(math.MaxInt)
		checkSizes(t, b.d, 128, 0, 0)
		b.set("x", 1)
		b.delete("x")
		checkSizes(t, b.d, 128, 4, 0)
		for i := range n {
			b.set(strconv.Itoa(i), i)
		}
		b.step(math.MaxInt)
		checkSizes(t, b.d, 4, 0, 0)
		b.all()
		b.set("new", 1)
		checkSizes(t, b.d, 4, second, 0)
		b.all()
	}
}

// P7.2: the greatest table has 65536 slots, however many keys there are, and is left when there are few.
func TestMost(t *testing.T) {
	d := filled(5, 65536)
	checkSizes(t, d, 65536, 0, 0)
	for i := 65536; i < 140000; i++ {
		checkSet(t, d, strconv.Itoa(i), i, true)
		checkSizes(t, d, 65536, 0, 0)
	}
	checkLen(t, d, 140000)
	if l := listed(t, d); len(l) != 140000 {
		t.Errorf("%d are listed", len(l))
	}
	for i := range 140000 {
		checkGet(t, d, strconv.Itoa(i), i, true)
	}
	for i := range 140000 - 8192 {
		checkDelete(t, d, strconv.Itoa(i), true)
		checkSizes(t, d, 65536, 0, 0)
	}
	checkDelete(t, d, "139999", true)
	checkSizes(t, d, 65536, 8192, 0)
	checkStep(t, d, 65535, 65535)
	checkSizes(t, d, 65536, 8192, 65535)
	checkSet(t, d, "139999", 1, true)
	checkSizes(t, d, 8192, 0, 0)
	checkSet(t, d, "one more", 1, true)
	checkSizes(t, d, 8192, 16384, 0)
}

// P7.2: from 32768 slots it grows into the greatest table, and no further while more and more keys are set.
func TestUpToMost(t *testing.T) {
	d := filled(0, 32768)
	checkSizes(t, d, 32768, 0, 0)
	checkSet(t, d, "more", 1, true)
	checkSizes(t, d, 32768, 65536, 0)
	for i := range 32768 {
		checkSet(t, d, "more"+strconv.Itoa(i), i, true)
	}
	checkSizes(t, d, 65536, 0, 0)
	checkLen(t, d, 65537)
}

// P7.2: steps of all numbers, of a dict that moves and of one that doesn't.
func TestStep(t *testing.T) {
	for _, n := range []int{math.MinInt, math.MinInt + 1, math.MinInt32, -1000, -2, -1, 0, 1, 2, 1000, math.MaxInt32, math.MaxInt - 1, math.MaxInt} {
		for _, keys := range []int{0, 1, 4, 100} {
			d := filled(1, keys)
			first, _, _ := d.Sizes()
			checkStep(t, d, n, 0)
			checkSizes(t, d, first, 0, 0)
			checkLen(t, d, keys)
		}
		for place := range 32 {
			d := filled(1, 32)
			checkSet(t, d, "new", 1, true)
			checkStep(t, d, place, place)
			want := min(max(n, 0), 32-place)
			checkStep(t, d, n, want)
			if place+want < 32 {
				checkSizes(t, d, 32, 64, place+want)
			} else {
				checkSizes(t, d, 64, 0, 0)
			}
			checkLen(t, d, 33)
			for i := range 32 {
				checkGet(t, d, strconv.Itoa(i), i, true)
			}
		}
	}
	d := filled(1, 32)
	checkSet(t, d, "new", 1, true)
	checkStep(t, d, 32, 32)
	checkSizes(t, d, 64, 0, 0)
	checkStep(t, d, 32, 0)
}

// P7.2: a slot's keys are in the order of their bytes, and there are no slots but those of the tables that are there.
func TestBucket(t *testing.T) {
	d := dict.New[int](0)
	var keys []string
	for i := 0; len(keys) < 4; i++ {
		for _, key := range []string{"\xff" + strconv.Itoa(i), "\x00" + strconv.Itoa(i), "b" + strconv.Itoa(i), "B" + strconv.Itoa(i)} {
			if hash.Sum(0, key)%4 == 2 && len(keys) < 4 {
				keys = append(keys, key)
			}
		}
	}
	for _, key := range keys {
		checkSet(t, d, key, 1, true)
	}
	slices.Sort(keys)
	checkBucket(t, d, 0, 2, keys...)
	for _, slot := range []int{0, 1, 3} {
		checkBucket(t, d, 0, slot)
	}
	checkEdges(t, d)
	checkDelete(t, d, keys[1], true)
	checkBucket(t, d, 0, 2, keys[0], keys[2], keys[3])
	checkSet(t, d, keys[1], 1, true)
	checkBucket(t, d, 0, 2, keys...)
	checkSet(t, d, keys[1], 2, false)
	checkBucket(t, d, 0, 2, keys...)
	checkSet(t, d, "one more", 1, true)
	checkSizes(t, d, 4, 8, 0)
	checkBucket(t, d, 0, 2, keys...)
	checkBucket(t, d, 1, int(hash.Sum(0, "one more")%8), "one more")
	checkEdges(t, d)
	checkStep(t, d, 2, 2)
	checkBucket(t, d, 0, 2, keys...)
	checkStep(t, d, 1, 1)
	checkBucket(t, d, 0, 2)
	checkEdges(t, d)
	checkStep(t, d, 1, 1)
	checkEdges(t, d)
	checkNoBucket(t, d, 1, 0)
	for _, key := range keys {
		l, e := d.Bucket(0, int(hash.Sum(0, key)%8))
		if !slices.Contains(l, key) || !slices.IsSorted(l) || e != api.OK {
			t.Errorf("%q is not in %q, %d", key, l, e)
		}
	}
}

// P7.2: the order of bytes, of keys that all stand in one slot of a table that is left behind.
func TestBucketOrder(t *testing.T) {
	var keys []string
	for i := 0; len(keys) < 60; i++ {
		key := string([]byte{byte(i * 37), byte(i >> 3), byte(i)})[i%3:]
		if hash.Sum(1, key)%64 == 5 && !slices.Contains(keys, key) {
			keys = append(keys, key)
		}
	}
	b := newBoth(t, 1)
	for at, key := range keys {
		b.set(key, at)
		b.all()
	}
	b.step(math.MaxInt)
	slices.Sort(keys)
	checkBucket(t, b.d, 0, 5, keys...)
}

// P7.2: what Bucket answers is new memory, spare room too.
func TestBucketIsNew(t *testing.T) {
	d := filled(3, 40)
	checkSet(t, d, "1000", 1, true)
	for i := range 30 {
		checkSet(t, d, "more"+strconv.Itoa(i), i, true)
	}
	for range 64 {
		d.Step(1)
		before := listed(t, d)
		first, second, _ := d.Sizes()
		for table, size := range []int{first, second} {
			for slot := range size {
				l, _ := d.Bucket(table, slot)
				m, _ := d.Bucket(table, slot)
				want := slices.Clone(m)
				l = l[:cap(l)]
				for at := range l {
					l[at] = "stained"
				}
				if !slices.Equal(m, want) {
					t.Errorf("stained: %q", m)
				}
				checkBucket(t, d, table, slot, want...)
			}
		}
		if after := listed(t, d); !slices.Equal(before, after) {
			t.Errorf("stained: %q, not %q", after, before)
		}
	}
	for i := range 40 {
		checkGet(t, d, strconv.Itoa(i), i, true)
	}
	checkGet(t, d, "stained", 0, false)
	list, _ := d.Bucket(0, int(hash.Sum(3, "7")%64))
	want := slices.Clone(list)
	checkDelete(t, d, "7", true)
	checkSet(t, d, "another", 1, true)
	d.Step(math.MaxInt)
	if !slices.Equal(list, want) {
		t.Errorf("it is %q, not %q", list, want)
	}
}

// P7.1: a key that was cut out of bytes, or is told by Bucket, is the same key.
func TestKeysFromElsewhere(t *testing.T) {
	d, bytes := dict.New[int](7), []byte("xxkeyxx")
	checkSet(t, d, string(bytes[2:5]), 1, true)
	clear(bytes)
	checkGet(t, d, "key", 1, true)
	checkSet(t, d, ("akey")[1:], 2, false)
	for slot := range 4 {
		l, _ := d.Bucket(0, slot)
		for _, key := range l {
			checkGet(t, d, key, 2, true)
			checkDelete(t, d, key, true)
		}
	}
	checkLen(t, d, 0)
}

// P7.1, P7.2: all calls on a nil dict.
func TestNil(t *testing.T) {
	var d *dict.Dict[string]
	for _, key := range oddKeys() {
		checkSet(t, d, key, "v", false)
		checkGet(t, d, key, "", false)
		checkDelete(t, d, key, false)
	}
	for _, n := range []int{math.MinInt, -1, 0, 1, 1000, math.MaxInt} {
		checkStep(t, d, n, 0)
		for _, table := range []int{math.MinInt, -1, 0, 1, 2, math.MaxInt} {
			checkNoBucket(t, d, table, n)
		}
	}
	checkLen(t, d, 0)
	checkSizes(t, d, 0, 0, 0)
	var lists *dict.Dict[[]int]
	if l, ok := lists.Get("a"); l != nil || ok {
		t.Errorf("it is %v, %t", l, ok)
	}
}

// P7.1: dicts keep their keys each for itself, those of one seed too.
func TestApart(t *testing.T) {
	a, b := dict.New[int](1), dict.New[int](1)
	for i := range 50 {
		checkSet(t, a, strconv.Itoa(i), i, true)
		checkLen(t, b, 0)
		checkGet(t, b, strconv.Itoa(i), 0, false)
	}
	checkSizes(t, b, 4, 0, 0)
	checkSet(t, b, "7", -7, true)
	checkDelete(t, b, "8", false)
	checkGet(t, a, "7", 7, true)
	checkDelete(t, b, "7", true)
	checkGet(t, a, "7", 7, true)
	checkLen(t, a, 50)
}

// P7.1, P7.2, P7.3: acts by chance, held behind each against the document's words.
func TestModel(t *testing.T) {
	for round := range 60 {
		r := rand.New(rand.NewPCG(7, uint64(round)))
		b := newBoth(t, seeds()[round%8]+uint32(round/8))
		for act := range 800 {
			// Keys come and go in waves, so that tables grow and shrink.
			grows := act/200%2 == 0
			key := "k" + strconv.Itoa(r.IntN(1+2*act%150))
			switch n := r.IntN(10); {
			case n < 5 && grows || n < 1:
				b.set(key, act)
			case n < 7:
				b.delete(key)
			case n < 8:
				b.get(key)
			case n < 9:
				b.step(r.IntN(12) - 3)
			default:
				b.all()
			}
		}
		b.all()
		checkEdges(t, b.d)
		for key := range b.m.keys {
			b.get(key)
		}
		if t.Failed() {
			t.Fatalf("in round %d", round)
		}
	}
}

// P7.1, P7.2, P7.3: up and down through great tables, acts by chance between.
func TestModelWide(t *testing.T) {
	for _, seed := range []uint32{0, most} {
		r := rand.New(rand.NewPCG(8, uint64(seed)))
		b := newBoth(t, seed)
		for i := range 1500 {
			b.set(strconv.Itoa(i), i)
			b.get(strconv.Itoa(r.IntN(1500)))
			if i%97 == 0 {
				b.all()
			}
		}
		for i := range 1500 {
			b.delete(strconv.Itoa(i))
			if i%101 == 0 {
				b.all()
				b.set("x"+strconv.Itoa(r.IntN(20)), i)
			}
			if i%211 == 0 {
				b.step(r.IntN(300))
			}
		}
		b.all()
	}
}

// P7.3: all buckets together are the keys, each once, whatever is moved.
func TestAllBuckets(t *testing.T) {
	for _, seed := range seeds() {
		d, there := dict.New[int](seed), map[string]int{}
		check := func() {
			t.Helper()
			l := listed(t, d)
			slices.Sort(l)
			if want := slices.Sorted(maps.Keys(there)); !slices.Equal(l, want) {
				t.Errorf("%d are listed, not %d", len(l), len(want))
			}
		}
		for i := range 300 {
			key := strconv.Itoa(i * 7 % 300)
			d.Set(key, i)
			there[key] = i
			check()
		}
		for i := range 300 {
			key := strconv.Itoa(i * 11 % 300)
			d.Delete(key)
			delete(there, key)
			check()
			if i%40 == 0 {
				d.Step(i)
				check()
			}
		}
		checkLen(t, d, 0)
	}
}

// P7.3: dicts of several seeds, with steps between or without, tell the same of keys and things.
func TestSeeds(t *testing.T) {
	r := rand.New(rand.NewPCG(7, 3))
	var dicts []*dict.Dict[int]
	for _, seed := range append(seeds(), seeds()...) {
		dicts = append(dicts, dict.New[int](seed))
	}
	there := map[string]int{}
	for act := range 6000 {
		key := strconv.Itoa(r.IntN(20 + act%400))
		what := r.IntN(4)
		if act%2000 > 1500 {
			what = 2
		}
		v, is := there[key]
		for at, d := range dicts {
			switch what {
			case 0, 1:
				checkSet(t, d, key, act, !is)
			case 2:
				checkDelete(t, d, key, is)
			case 3:
				checkGet(t, d, key, v, is)
			}
			if at%2 == 0 {
				d.Step(r.IntN(20))
			}
			if at%3 == 0 {
				d.Get(strconv.Itoa(r.IntN(400)))
			}
		}
		switch what {
		case 0, 1:
			there[key] = act
		case 2:
			delete(there, key)
		}
		for _, d := range dicts {
			checkLen(t, d, len(there))
		}
	}
	for _, d := range dicts {
		for n := range 450 {
			v, is := there[strconv.Itoa(n)]
			checkGet(t, d, strconv.Itoa(n), v, is)
		}
	}
}

// P7.1, P7.2: many keys, one call after the other, cost no more than they must; nor do many steps.
func TestSoon(t *testing.T) {
	begin := time.Now()
	d := dict.New[int](1)
	for i := range 400000 {
		d.Set(strconv.Itoa(i), i)
		d.Get(strconv.Itoa(i / 2))
		d.Len()
		d.Sizes()
		d.Step(math.MaxInt)
	}
	for i := range 400000 {
		if v, ok := d.Get(strconv.Itoa(i)); v != i || !ok {
			t.Errorf("%d is %d, %t", i, v, ok)
		}
	}
	for i := range 400000 {
		d.Delete(strconv.Itoa(i))
	}
	checkLen(t, d, 0)
	if took := time.Since(begin); took > 10*time.Second {
		t.Errorf("it took %v", took)
	}
}
