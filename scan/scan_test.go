package scan_test

import (
	"fmt"
	"maps"
	"math"
	"math/rand/v2"
	"slices"
	"strconv"
	"strings"
	"testing"

	"palio/api"
	"palio/dict"
	"palio/hash"
	"palio/scan"
)

const most = math.MaxUint32

// allSizes are written out, as the document's words count them up.
func allSizes() []int {
	return []int{4, 8, 16, 32, 64, 128, 256, 512, 1024, 2048, 4096, 8192, 16384, 32768, 65536}
}

// wrongSizes are numbers that are no sizes.
func wrongSizes() []int {
	l := []int{math.MinInt, math.MinInt + 1, math.MinInt32, -65536, -8, -4, -3, -2, -1, 0, 1, 2, 3, 5, 6, 7, 9, 12, 15, 17, 24, 48, 1000, 65535, 65537, 65540, 98304, 131071, 131072, 131073, math.MaxInt32, math.MaxInt - 1, math.MaxInt}
	for bit := 17; bit < 63; bit++ {
		l = append(l, 1<<bit, 1<<bit+4, -1<<bit)
	}
	for _, size := range allSizes() {
		l = append(l, -size, size+1, size-1, size*3)
	}
	return l
}

// edges are numbers of 32 bits: each power of two, those beside it, some others.
func edges() []uint32 {
	l := []uint32{0, most, 0x55555555, 0xaaaaaaaa, 0x12345678, 0x1e6a2c48, 0x0f0f0f0f, 0x00ff00ff, 0xdeadbeef}
	for bit := range 32 {
		n := uint32(1) << bit
		l = append(l, n-1, n, n+1, ^n)
	}
	return l
}

func seeds() []uint32 {
	return []uint32{0, 1, 7, 0x9e3779b9, 2166136261, most}
}

// modelNext writes all 32 digits out: those above the size's are made 1, they are read from the last one to the first one, one is added, they are read so again.
func modelNext(c uint32, size int) uint32 {
	digits := []byte(fmt.Sprintf("%032b", c))
	own := len(strconv.FormatInt(int64(size-1), 2))
	for at := range 32 - own {
		digits[at] = '1'
	}
	slices.Reverse(digits)
	n, err := strconv.ParseUint(string(digits), 2, 32)
	if err != nil {
		panic(err)
	}
	digits = []byte(fmt.Sprintf("%032b", (n+1)%(1<<32)))
	slices.Reverse(digits)
	n, err = strconv.ParseUint(string(digits), 2, 32)
	if err != nil {
		panic(err)
	}
	return uint32(n)
}

// modelScan goes by the document's words, with what the dict tells of its slots. (No dict moves into a table as great as its own: a new key makes it twice as great at least, a deleted one an eighth, or 4 behind more than that.)
func modelScan[V any](t *testing.T, d *dict.Dict[V], c uint32) ([]string, uint32) {
	t.Helper()
	first, second, _ := d.Sizes()
	sizes := [2]int{first, second}
	keys := func(table int) []string {
		l, e := d.Bucket(table, int(c%uint32(sizes[table])))
		if e != api.OK {
			t.Fatalf("Bucket(%d, ..) tells %d at the sizes %d, %d", table, e, first, second)
		}
		slices.SortFunc(l, strings.Compare)
		return l
	}
	if second == 0 {
		return keys(0), modelNext(c, first)
	}
	small, great := 0, 1
	if second < first {
		small, great = 1, 0
	}
	more := uint32(sizes[great]-1) &^ uint32(sizes[small]-1)
	l := keys(small)
	for {
		l = append(l, keys(great)...)
		if c = modelNext(c, sizes[great]); c&more == 0 {
			return l, c
		}
	}
}

// modelAll is what the model's scan tells from 0 on, call by call.
func modelAll[V any](t *testing.T, d *dict.Dict[V]) [][]string {
	t.Helper()
	var calls [][]string
	for c, more := uint32(0), true; more; more = c != 0 {
		var l []string
		l, c = modelScan(t, d, c)
		calls = append(calls, l)
	}
	return calls
}

func checkNext(t *testing.T, c uint32, size int, want uint32, wantErr api.Errno) {
	t.Helper()
	if n, e := scan.Next(c, size); n != want || e != wantErr {
		t.Errorf("Next(%d, %d) is %d, %d, not %d, %d", c, size, n, e, want, wantErr)
	}
}

func checkScan[V any](t *testing.T, d *dict.Dict[V], c uint32, next uint32, want ...string) {
	t.Helper()
	if l, n := scan.Scan(d, c); !slices.Equal(l, want) || n != next {
		first, second, place := d.Sizes()
		t.Errorf("at the sizes %d, %d, %d: Scan(%d) is %.300q, %d, not %.300q, %d", first, second, place, c, l, n, want, next)
	}
}

func checkAll[V any](t *testing.T, d *dict.Dict[V], want ...string) {
	t.Helper()
	if l := scan.All(d); !slices.Equal(l, want) {
		first, second, place := d.Sizes()
		t.Errorf("at the sizes %d, %d, %d: All is %.500q, not %.500q", first, second, place, l, want)
	}
}

func checkSizes[V any](t *testing.T, d *dict.Dict[V], first int, second int, place int) {
	t.Helper()
	if a, b, at := d.Sizes(); a != first || b != second || at != place {
		t.Fatalf("the sizes are %d, %d, %d, not %d, %d, %d", a, b, at, first, second, place)
	}
}

// checkModel holds scans from some cursors on, and all, against the model.
func checkModel[V any](t *testing.T, d *dict.Dict[V], cursors ...uint32) {
	t.Helper()
	for _, c := range cursors {
		want, next := modelScan(t, d, c)
		checkScan(t, d, c, next, want...)
	}
	checkAll(t, d, slices.Concat(modelAll(t, d)...)...)
}

// upTo are the cursors below a number, and those at the edges.
func upTo(n int) []uint32 {
	l := edges()
	for c := range n {
		l = append(l, uint32(c), most-uint32(c), uint32(c)<<3, uint32(c)<<16)
	}
	return l
}

// view is what a dict tells of itself: its sizes and its place, all slots' keys, how many there are.
type view struct {
	numbers [4]int
	slots   []string
}

func viewOf[V any](t *testing.T, d *dict.Dict[V]) view {
	t.Helper()
	first, second, place := d.Sizes()
	v := view{numbers: [4]int{first, second, place, d.Len()}}
	for table, size := range []int{first, second} {
		for slot := range size {
			l, e := d.Bucket(table, slot)
			if e != api.OK {
				t.Fatalf("Bucket(%d, %d) tells %d", table, slot, e)
			}
			v.slots = append(v.slots, fmt.Sprintf("%d %d %q", table, slot, l))
		}
	}
	return v
}

func checkView[V any](t *testing.T, d *dict.Dict[V], before view) {
	t.Helper()
	if after := viewOf(t, d); after.numbers != before.numbers || !slices.Equal(after.slots, before.slots) {
		t.Errorf("%v has become %v", before.numbers, after.numbers)
	}
}

func numbers(n int) []string {
	var l []string
	for i := range n {
		l = append(l, strconv.Itoa(i))
	}
	return l
}

func sorted(l []string) []string {
	return slices.Sorted(slices.Values(l))
}

// filled is a dict of the keys "0", "1", .., each its number, that is not moving.
func filled(seed uint32, n int) *dict.Dict[int] {
	d := dict.New[int](seed)
	for i := range n {
		d.Set(strconv.Itoa(i), i)
	}
	d.Step(math.MaxInt)
	return d
}

// growing is a dict of one key more than a size, that begins to move into a table twice as great.
func growing(t *testing.T, seed uint32, size int) *dict.Dict[int] {
	t.Helper()
	d := filled(seed, size)
	checkSizes(t, d, size, 0, 0)
	d.Set(strconv.Itoa(size), size)
	checkSizes(t, d, size, 2*size, 0)
	return d
}

// sparse is a dict of a few keys, two at least, in a table of a size, that is not moving.
func sparse(t *testing.T, seed uint32, size int, left int) *dict.Dict[int] {
	t.Helper()
	d := growing(t, seed, size/2)
	for i := left; i <= size/2; i++ {
		d.Delete(strconv.Itoa(i))
	}
	d.Step(math.MaxInt)
	checkSizes(t, d, size, 0, 0)
	return d
}

// shrinking is a dict of a few keys, that begins to move from a size into the one that is right for them.
func shrinking(t *testing.T, seed uint32, size int, left int) *dict.Dict[int] {
	t.Helper()
	d := sparse(t, seed, size, left+1)
	d.Delete(strconv.Itoa(left))
	checkSizes(t, d, size, hash.SizeFor(left), 0)
	return d
}

// leaping is a dict of a key more than n, that begins to move from a table of 4 into one that is many times as great.
func leaping(t *testing.T, seed uint32, n int) *dict.Dict[int] {
	t.Helper()
	d := shrinking(t, seed, 4*hash.SizeFor(n), 1)
	for i := range n {
		d.Set(strconv.Itoa(i), i)
	}
	d.Step(math.MaxInt)
	checkSizes(t, d, 4, 0, 0)
	d.Set(strconv.Itoa(n), n)
	checkSizes(t, d, 4, hash.SizeFor(2*n), 0)
	return d
}

// P8.1: the example.
func TestNextOfEight(t *testing.T) {
	c := uint32(0)
	for _, want := range []uint32{4, 2, 6, 1, 5, 3, 7, 0} {
		checkNext(t, c, 8, want, api.OK)
		c = want
	}
}

// P8.1: next cursors, written out.
func TestNext(t *testing.T) {
	for _, c := range []struct {
		c    uint32
		size int
		next uint32
	}{
		{0, 4, 2}, {2, 4, 1}, {1, 4, 3}, {3, 4, 0}, {4, 4, 2}, {6, 4, 1}, {5, 4, 3}, {7, 4, 0}, {most, 4, 0}, {most - 1, 4, 1}, {most - 3, 4, 2}, {0xdeadbeef, 4, 0}, {1 << 31, 4, 2},
		{8, 8, 4}, {13, 8, 3}, {most, 8, 0}, {most - 7, 8, 4}, {most - 3, 8, 2}, {0x80000001, 8, 5}, {1 << 31, 8, 4}, {0xdeadbeef, 8, 0},
		{0, 16, 8}, {6, 16, 14}, {14, 16, 1}, {15, 16, 0}, {8, 16, 4},
		{12345, 4096, 2105}, {0, 4096, 2048}, {4095, 4096, 0},
		{0, 65536, 32768}, {32768, 65536, 16384}, {3, 65536, 32771}, {1, 65536, 32769}, {65535, 65536, 0}, {65534, 65536, 1}, {65536, 65536, 32768}, {0x12340000, 65536, 32768}, {most, 65536, 0}, {1 << 31, 65536, 32768}, {0xdeadbeef, 65536, 0x7eef},
	} {
		checkNext(t, c.c, c.size, c.next, api.OK)
	}
}

// P8.1: next cursors in tables of each size, digit by digit.
func TestNextModel(t *testing.T) {
	random := rand.New(rand.NewPCG(8, 1))
	for _, size := range allSizes() {
		for _, c := range append(edges(), uint32(size)*3-1, uint32(size)*5, uint32(size)*7+1) {
			checkNext(t, c, size, modelNext(c, size), api.OK)
		}
		for range 2000 {
			c := random.Uint32()
			checkNext(t, c, size, modelNext(c, size), api.OK)
		}
	}
}

// P8.1: digits above the size's change nothing, and there are none in what is answered.
func TestNextAbove(t *testing.T) {
	for _, size := range allSizes() {
		for _, slot := range []uint32{0, 1, 2, uint32(size)/2 - 1, uint32(size) / 2, uint32(size) - 2, uint32(size) - 1} {
			want, _ := scan.Next(slot, size)
			if want >= uint32(size) {
				t.Errorf("Next(%d, %d) is %d", slot, size, want)
			}
			for above := uint32(size); above != 0; above <<= 1 {
				checkNext(t, slot|above, size, want, api.OK)
				checkNext(t, slot|-above, size, want, api.OK)
			}
		}
	}
}

// P8.1: what is no size has no cursors.
func TestNextFaults(t *testing.T) {
	for _, size := range wrongSizes() {
		if slices.Contains(allSizes(), size) {
			continue
		}
		for _, c := range []uint32{0, 1, 2, 7, 65535, 1 << 31, most} {
			checkNext(t, c, size, 0, api.ErrArg)
		}
	}
}

// P8.1: from 0 on until 0 each slot comes once, and from each slot on 0 comes.
func TestNextRound(t *testing.T) {
	for _, size := range allSizes() {
		seen, c := make([]bool, size), uint32(0)
		for calls := range size {
			if seen[c] {
				t.Fatalf("of %d: %d comes again, behind %d calls", size, c, calls)
			}
			seen[c] = true
			n, e := scan.Next(c, size)
			if e != api.OK || n >= uint32(size) || n == 0 != (calls == size-1) {
				t.Fatalf("of %d: %d, then %d, %d", size, c, n, e)
			}
			c = n
		}
	}
}

// words are lists of keys, each written as one text.
func words(calls [][]string) []string {
	var l []string
	for _, keys := range calls {
		l = append(l, strings.Join(keys, " "))
	}
	return l
}

// checkRound holds what is told from 0 on, call by call, with the cursors of a table of so many slots.
func checkRound[V any](t *testing.T, d *dict.Dict[V], want ...string) {
	t.Helper()
	c, size := uint32(0), len(want)
	for _, keys := range want {
		next := modelNext(c, size)
		checkScan(t, d, c, next, strings.Fields(keys)...)
		c = next
	}
	if c != 0 {
		t.Errorf("%d calls end at %d", size, c)
	}
	checkAll(t, d, strings.Fields(strings.Join(want, " "))...)
}

// P8.1, P8.2: what dicts that do not move tell, written out.
func TestScanStill(t *testing.T) {
	d := dict.New[int](0)
	checkRound(t, d, "", "", "", "")
	for _, key := range []string{"d", "b", "c", "a"} {
		d.Set(key, 1)
	}
	checkRound(t, d, "", "", "a d", "b c")
	for _, key := range []string{"g", "f", "e"} {
		d.Set(key, 1)
	}
	d.Step(math.MaxInt)
	checkSizes(t, d, 8, 0, 0)
	checkRound(t, d, "", "g", "", "", "a d e", "", "c f", "b")
	checkScan(t, d, 8, 4)
	checkScan(t, d, 12, 2, "g")
	checkScan(t, d, 13, 3)
	checkScan(t, d, 12345, 5, "a", "d", "e")
	checkScan(t, d, 1<<31, 4)
	checkScan(t, d, 0xfffffff8, 4)
	checkScan(t, d, 0xfffffffb, 7, "c", "f")
	checkScan(t, d, most, 0, "b")
}

// P8.1, P8.2: what a dict tells that moves into a greater table, written out at each place.
func TestScanGreater(t *testing.T) {
	d := dict.New[int](622)
	for _, key := range []string{"h", "g", "f", "e", "d", "c", "b", "a"} {
		d.Set(key, 1)
	}
	d.Step(math.MaxInt)
	d.Set("i", 1)
	for place, want := range [][]string{
		{"", "a i", "b d", "g h", "f", "c e", "", ""},
		{"", "a i", "b d", "g h", "f", "c e", "", ""},
		{"", "a i", "b d", "g h", "f", "c e", "", ""},
		{"", "a i", "d b", "g h", "f", "c e", "", ""},
		{"", "a i", "d b", "g h", "f", "c e", "", ""},
		{"", "a i", "d b", "g h", "f", "c e", "", ""},
		{"", "a i", "d b", "g h", "f", "e c", "", ""},
		{"", "a i", "d b", "h g", "f", "e c", "", ""},
	} {
		checkSizes(t, d, 8, 16, place)
		checkRound(t, d, want...)
		// From the digit 8 on, the great table's other slot is not gone through.
		checkScan(t, d, 8, 4)
		checkScan(t, d, 12, 2, "a", "i")
		for _, c := range []uint32{9, 25, 0xfffffff9} {
			if place < 2 {
				checkScan(t, d, c, 5, "f")
			} else {
				checkScan(t, d, c, 5)
			}
		}
		if place < 7 {
			checkScan(t, d, 14, 1, "g", "h")
		} else {
			checkScan(t, d, 14, 1, "g")
			checkScan(t, d, 6+16, 1, "h", "g")
		}
		checkScan(t, d, most, 0)
		checkScan(t, d, 0xfffffff0, 4)
		d.Step(1)
	}
	checkSizes(t, d, 16, 0, 0)
	checkRound(t, d, "", "", "", "a i", "d", "b", "h", "g", "f", "", "e", "c", "", "", "", "")
}

// P8.1, P8.2: what a dict tells that moves into a lesser table, written out from the place 5 on.
func TestScanLesser(t *testing.T) {
	d := dict.New[int](0)
	for i := range 17 {
		d.Set("k"+strconv.Itoa(i), 1)
	}
	d.Step(math.MaxInt)
	for _, key := range []string{"c", "b", "a"} {
		d.Set(key, 1)
	}
	for i := range 17 {
		d.Delete("k" + strconv.Itoa(i))
	}
	for _, key := range []string{"h", "g", "f", "e", "d"} {
		d.Set(key, 1)
	}
	for place := 5; place < 32; place++ {
		checkSizes(t, d, 32, 4, place)
		switch {
		case place < 24:
			checkRound(t, d, "g h", "", "d e a", "f c b")
			checkScan(t, d, 29, 3, "d", "e")
			checkScan(t, d, 31, 0, "f")
			checkScan(t, d, most, 0, "f")
		case place < 26:
			checkRound(t, d, "g h", "", "d e a", "b f c")
			checkScan(t, d, 29, 3, "d", "e")
			checkScan(t, d, 31, 0, "b", "f")
			checkScan(t, d, most, 0, "b", "f")
		case place < 28:
			checkRound(t, d, "g h", "", "a d e", "b f c")
			checkScan(t, d, 29, 3, "a", "d", "e")
		default:
			checkRound(t, d, "g h", "", "a d e", "b c f")
			checkScan(t, d, 31, 0, "b", "c", "f")
		}
		for _, c := range []uint32{4, 8, 12, 16, 28, 32, 1 << 31, 0xfffffffc} {
			checkScan(t, d, c, 2, "g", "h")
		}
		checkScan(t, d, 30, 1)
		d.Step(1)
	}
	checkSizes(t, d, 4, 0, 0)
	checkRound(t, d, "g h", "", "a d e", "b c f")
}

// P8.1, P8.2: dicts that do not move, of many sizes, held against the words.
func TestModelStill(t *testing.T) {
	for _, seed := range seeds() {
		for _, n := range []int{0, 1, 2, 3, 4, 5, 8, 9, 16, 17, 40, 64, 65, 200} {
			d := filled(seed, n)
			first, _, _ := d.Sizes()
			checkModel(t, d, upTo(2*first)...)
		}
		checkModel(t, sparse(t, seed, 256, 3), upTo(512)...)
	}
	checkModel(t, filled(5, 40000), upTo(3000)...)
}

// checkPlaces holds a dict against the words at each place of its move, or, of a long move, at so many of them.
func checkPlaces(t *testing.T, d *dict.Dict[int], places int, cursors ...uint32) {
	t.Helper()
	first, second, _ := d.Sizes()
	step := max(1, first/places)
	for place := 0; place < first; place += step {
		checkSizes(t, d, first, second, place)
		checkModel(t, d, cursors...)
		d.Step(min(step, first-1-place))
		if place+step >= first && place != first-1 {
			checkModel(t, d, cursors...)
		}
	}
	d.Step(math.MaxInt)
	checkSizes(t, d, second, 0, 0)
	checkModel(t, d, cursors...)
}

// P8.1, P8.2: dicts that move into a table twice as great, at each place.
func TestModelGreater(t *testing.T) {
	for _, seed := range seeds() {
		for _, size := range []int{4, 8, 16, 32, 64} {
			checkPlaces(t, growing(t, seed, size), size, upTo(2*size)...)
		}
	}
	checkPlaces(t, growing(t, 3, 32768), 3, upTo(500)...)
}

// P8.1, P8.2: dicts that move into a table that is lesser by several digits, at each place.
func TestModelLesser(t *testing.T) {
	for _, seed := range seeds() {
		checkPlaces(t, shrinking(t, seed, 16, 1), 16, upTo(32)...)
		checkPlaces(t, shrinking(t, seed, 32, 3), 32, upTo(32)...)
		checkPlaces(t, shrinking(t, seed, 64, 7), 64, upTo(16)...)
		checkPlaces(t, shrinking(t, seed, 128, 9), 16, upTo(64)...)
		checkPlaces(t, shrinking(t, seed, 256, 2), 4, upTo(64)...)
	}
	checkPlaces(t, shrinking(t, 3, 65536, 1), 3, 0, 1, 2, 3, 5, 65532, 65535, 65536, 1<<31, most)
	checkPlaces(t, shrinking(t, 4, 65536, 8191), 2, upTo(300)...)
}

// P8.1, P8.2: dicts that move from the least table into one that is greater by many digits, at each place.
func TestModelLeap(t *testing.T) {
	for _, seed := range seeds() {
		for _, n := range []int{5, 8, 9, 30, 100} {
			d := leaping(t, seed, n)
			_, second, _ := d.Sizes()
			checkPlaces(t, d, 4, upTo(min(2*second, 300))...)
		}
	}
	checkPlaces(t, leaping(t, 9, 8000), 4, 0, 1, 2, 3, 4, 5, 6, 7, 8191, 8192, 16384, 1<<31, most-3, most)
}

// P8.1: keys that come while a dict moves into a lesser table are told first, as they stand in the lesser one.
func TestScanSetWhileMoving(t *testing.T) {
	for _, seed := range seeds() {
		d := shrinking(t, seed, 128, 12)
		for i := range 60 {
			d.Set("new"+strconv.Itoa(i), i)
			checkModel(t, d, upTo(40)...)
		}
		d = growing(t, seed, 64)
		for i := range 60 {
			d.Set("new"+strconv.Itoa(i), i)
			checkModel(t, d, upTo(40)...)
		}
	}
}

// P8.1: slot by slot, each slot's keys in the order of their bytes.
func TestScanOrder(t *testing.T) {
	keys := []string{"", "\x00", "\x00\x00", "a", "a\x00", "\x00a", "A", "aa", "ab", "\x7f", "\x80", "\x80\x80", "\xff", "\xff\xff", "\xff\x00", "\xed\xa0\x80", "é", "e", "世界", "\r\n", " ", "0", "00", "-1", strings.Repeat("x", 64), strings.Repeat("x", 65), strings.Repeat("x", 1000)}
	for n := range 256 {
		keys = append(keys, string([]byte{'k', byte(n)}))
	}
	for _, seed := range seeds() {
		d := shrinking(t, seed, 1024, 1)
		for _, key := range keys {
			d.Set(key, 1)
		}
		checkModel(t, d, 0, 1, 2, 3)
		d.Step(math.MaxInt)
		checkSizes(t, d, 4, 0, 0)
		var slots [4][]string
		for _, key := range append(keys, "0") {
			slot := hash.Sum(seed, key) % 4
			if !slices.Contains(slots[slot], key) {
				slots[slot] = append(slots[slot], key)
			}
		}
		checkScan(t, d, 0, 2, sorted(slots[0])...)
		checkScan(t, d, 2, 1, sorted(slots[2])...)
		checkScan(t, d, 1, 3, sorted(slots[1])...)
		checkScan(t, d, 3, 0, sorted(slots[3])...)
		checkAll(t, d, slices.Concat(sorted(slots[0]), sorted(slots[2]), sorted(slots[1]), sorted(slots[3]))...)
	}
}

// P8.1, P8.2: an empty dict, a new one or one that was emptied, moving or not, tells nothing.
func TestEmpty(t *testing.T) {
	for _, seed := range seeds() {
		d := dict.New[int](seed)
		for _, c := range edges() {
			checkScan(t, d, c, modelNext(c, 4))
		}
		checkAll(t, d)
		for i := range 9 {
			d.Set(strconv.Itoa(i), i)
		}
		d.Step(math.MaxInt)
		for i := range 9 {
			d.Delete(strconv.Itoa(i))
		}
		checkSizes(t, d, 16, 4, 1)
		for _, c := range edges() {
			_, next := modelScan(t, d, c)
			checkScan(t, d, c, next)
		}
		checkRound(t, d, "", "", "", "")
	}
}

// P8.1, P8.2: a nil dict tells nothing.
func TestNil(t *testing.T) {
	for _, c := range edges() {
		checkScan[int](t, nil, c, 0)
		checkScan[string](t, nil, c, 0)
		checkScan[*dict.Dict[int]](t, nil, c, 0)
	}
	checkAll[int](t, nil)
	checkAll[any](t, nil)
	var d *dict.Dict[struct{}]
	checkScan(t, d, 3, 0)
	checkAll(t, d)
}

// P8.2: all keys, each once, of dicts of many sizes, at rest and moving.
func TestAll(t *testing.T) {
	check := func(d *dict.Dict[int], n int) {
		t.Helper()
		if l := scan.All(d); !slices.Equal(sorted(l), sorted(numbers(n))) {
			first, second, place := d.Sizes()
			t.Errorf("at the sizes %d, %d, %d: All is %.300q, not %d keys", first, second, place, l, n)
		}
	}
	for _, seed := range seeds() {
		d := dict.New[int](seed)
		check(d, 0)
		for n := range 300 {
			d.Set(strconv.Itoa(n), n)
			check(d, n+1)
		}
		for n := 299; n >= 0; n-- {
			d.Delete(strconv.Itoa(n))
			check(d, n)
		}
	}
	check(growing(t, 1, 32768), 32769)
	check(filled(1, 40000), 40000)
	check(filled(1, 70000), 70000)
	check(shrinking(t, 1, 65536, 1), 1)
	check(shrinking(t, 1, 65536, 8191), 8191)
	check(leaping(t, 1, 3000), 3001)
}

// P8.3: without changes a scan ends within as many calls as the lesser table has slots, and tells each key once.
func TestWithoutChanges(t *testing.T) {
	check := func(d *dict.Dict[int], n int) {
		t.Helper()
		first, second, place := d.Sizes()
		lesser := first
		if second != 0 {
			lesser = min(first, second)
		}
		var told []string
		keys, c := scan.Scan(d, 0)
		told = append(told, keys...)
		calls := 1
		for ; c != 0 && calls <= lesser; calls++ {
			keys, c = scan.Scan(d, c)
			told = append(told, keys...)
		}
		if calls > lesser || !slices.Equal(sorted(told), sorted(numbers(n))) {
			t.Errorf("at the sizes %d, %d, %d: %d calls, %d keys, not %d", first, second, place, calls, len(told), n)
		}
	}
	moved := func(d *dict.Dict[int], n int) {
		t.Helper()
		first, _, _ := d.Sizes()
		for range 9 {
			check(d, n)
			d.Step(max(1, first/8))
		}
		check(d, n)
	}
	for _, seed := range seeds() {
		for n := range 100 {
			check(filled(seed, n), n)
		}
		for _, size := range []int{4, 8, 32, 512} {
			moved(growing(t, seed, size), size+1)
		}
		for _, size := range []int{16, 64, 1024} {
			moved(shrinking(t, seed, size, 1), 1)
			moved(shrinking(t, seed, size, size/8-1), size/8-1)
		}
		moved(leaping(t, seed, 20), 21)
	}
	moved(growing(t, 0, 32768), 32769)
	moved(shrinking(t, 0, 65536, 5), 5)
	moved(leaping(t, 0, 3000), 3001)
}

// changed is a dict that is scanned while it is changed: what is there, and what was there all the time since the scan began.
type changed struct {
	d      *dict.Dict[int]
	there  map[string]bool
	always map[string]bool
	told   map[string]bool
	// fewer tells whether keys are to go rather than to come.
	fewer bool
	// How often it was scanned while it was growing, while it was shrinking.
	grew, shrank int
}

func newChanged(seed uint32, n int) *changed {
	w := &changed{d: dict.New[int](seed), there: map[string]bool{}}
	for i := range n {
		w.set("old" + strconv.Itoa(i))
	}
	w.d.Step(math.MaxInt)
	w.begin()
	return w
}

func (w *changed) begin() {
	w.always, w.told = maps.Clone(w.there), map[string]bool{}
}

func (w *changed) set(key string) {
	w.d.Set(key, 1)
	w.there[key] = true
}

func (w *changed) delete(key string) {
	w.d.Delete(key)
	delete(w.there, key)
	delete(w.always, key)
}

// call scans at a cursor, and holds that what is told is there.
func (w *changed) call(t *testing.T, c uint32) uint32 {
	t.Helper()
	if first, second, _ := w.d.Sizes(); second > first {
		w.grew++
	} else if second > 0 {
		w.shrank++
	}
	keys, next := scan.Scan(w.d, c)
	for _, key := range keys {
		if !w.there[key] {
			t.Errorf("Scan(%d) tells %q, which is not there", c, key)
		}
		w.told[key] = true
	}
	return next
}

// missed are the keys that were there all the time, and were not told.
func (w *changed) missed() []string {
	var l []string
	for key := range w.always {
		if !w.told[key] {
			l = append(l, key)
		}
	}
	return sorted(l)
}

// acts are what is done between two calls of a scan: the keys "x0", "x1", .. come and go, those that were there at first stay.
func acts() []func(w *changed) {
	come := func(from, to int) func(w *changed) {
		return func(w *changed) {
			for i := from; i < to; i++ {
				w.set("x" + strconv.Itoa(i))
			}
		}
	}
	goAll := func(w *changed) {
		for i := range 80 {
			w.delete("x" + strconv.Itoa(i))
		}
	}
	return []func(w *changed){
		func(w *changed) {},
		func(w *changed) { w.d.Step(1) },
		func(w *changed) { w.d.Step(math.MaxInt) },
		come(0, 5),
		func(w *changed) {
			come(0, 80)(w)
			w.d.Step(math.MaxInt)
		},
		goAll,
		func(w *changed) {
			goAll(w)
			w.d.Step(math.MaxInt)
			// One more that goes, so that it begins to move again, if there is too much room.
			w.set("x0")
			w.delete("x0")
		},
	}
}

// P8.3: whatever is done in the first five pauses of a scan, each key that is there all the time is told, and each that is told is there.
func TestEachPause(t *testing.T) {
	const pauses = 5
	all, grew, shrank := acts(), 0, 0
	for choice := range int(math.Pow(float64(len(all)), pauses)) {
		w := newChanged(uint32(choice%5), 3+choice%7)
		c, left := w.call(t, 0), choice
		for calls := 0; c != 0; calls++ {
			if calls < pauses {
				all[left%len(all)](w)
				left /= len(all)
			}
			if c = w.call(t, c); calls > 1000 {
				t.Fatalf("choice %d: no end", choice)
			}
		}
		if missed := w.missed(); len(missed) > 0 {
			t.Errorf("choice %d: %q were not told", choice, missed)
		}
		grew, shrank = grew+w.grew, shrank+w.shrank
	}
	if grew < 1000 || shrank < 1000 {
		t.Errorf("scanned %d times while growing, %d times while shrinking", grew, shrank)
	}
}

// waver sets or deletes a key by chance, for a while most often the one, then the other, so that the dict grows and shrinks again and again.
func (w *changed) waver(random *rand.Rand, of int) {
	switch {
	case len(w.there) >= of*9/10:
		w.fewer = true
	case len(w.there) <= of/16:
		w.fewer = false
	}
	key := "x" + strconv.Itoa(random.IntN(of))
	switch n := random.IntN(50); {
	case n < 3:
		w.d.Get(key)
	case n < 6:
		w.d.Step(random.IntN(4))
	case n == 6 == w.fewer:
		w.set(key)
	default:
		w.delete(key)
	}
}

// P8.3: scans through a dict that grows and shrinks by chance.
func TestWhileChanging(t *testing.T) {
	random := rand.New(rand.NewPCG(8, 3))
	for _, of := range []int{12, 60, 400, 3000} {
		w := newChanged(random.Uint32(), of/30)
		for scans := range 100 {
			w.begin()
			pace := []int{1, 3, 10, of / 8}[random.IntN(4)]
			c := w.call(t, 0)
			for calls := 0; c != 0; calls++ {
				for range random.IntN(pace + 1) {
					w.waver(random, of)
				}
				if c = w.call(t, c); calls > 1<<17 {
					t.Fatal("no end")
				}
			}
			if missed := w.missed(); len(missed) > 0 {
				t.Errorf("of %d, scan %d: %d were not told: %.300q", of, scans, len(missed), missed)
			}
		}
		if w.grew < 50 || w.shrank < 50 {
			t.Errorf("of %d: %d calls while growing, %d while shrinking", of, w.grew, w.shrank)
		}
	}
}

// P8.3: from a table of the most slots down to the least one and up again, within one scan.
func TestThroughAllSizes(t *testing.T) {
	w := newChanged(6, 3)
	fill := func(n int) {
		for i := range n {
			w.set("x" + strconv.Itoa(i))
		}
		w.d.Step(math.MaxInt)
	}
	empty := func() {
		for first, _, _ := w.d.Sizes(); first > 4; first, _, _ = w.d.Sizes() {
			for key := range maps.Clone(w.there) {
				if key[0] == 'x' {
					w.delete(key)
				}
			}
			w.d.Step(math.MaxInt)
			w.set("x")
			w.delete("x")
			w.d.Step(math.MaxInt)
		}
	}
	fill(33000)
	checkSizes(t, w.d, 65536, 0, 0)
	w.begin()
	c := w.call(t, 0)
	for calls := range 200000 {
		switch {
		case calls == 10 || calls == 6000 || calls == 60000:
			empty()
			checkSizes(t, w.d, 4, 0, 0)
		case calls == 12:
			fill(1200)
		case calls == 1000 || calls == 7000:
			fill(33000)
		}
		if c == 0 {
			break
		}
		c = w.call(t, c)
	}
	if missed := w.missed(); c != 0 || len(missed) > 0 || len(w.always) != 3 {
		t.Errorf("at %d %.300q were not told", c, missed)
	}
}

// P8.1, P8.2: a scan changes nothing of the dict.
func TestNothingChanged(t *testing.T) {
	check := func(d *dict.Dict[int]) {
		t.Helper()
		before := viewOf(t, d)
		for _, c := range edges() {
			l, n := scan.Scan(d, c)
			if again, m := scan.Scan(d, c); !slices.Equal(again, l) || m != n {
				t.Errorf("Scan(%d) is %q, %d, then %q, %d", c, l, n, again, m)
			}
			scan.Next(c, before.numbers[0])
		}
		checkView(t, d, before)
		scan.All(d)
		checkView(t, d, before)
	}
	for _, seed := range seeds() {
		check(dict.New[int](seed))
		check(filled(seed, 100))
		check(sparse(t, seed, 128, 4))
		for _, d := range []*dict.Dict[int]{growing(t, seed, 16), shrinking(t, seed, 128, 9), leaping(t, seed, 10)} {
			for range 5 {
				check(d)
				d.Step(3)
			}
		}
	}
}

// spoil writes into a list and into its spare room.
func spoil(l []string) {
	l = l[:cap(l)]
	for at := range l {
		l[at] = "spoilt"
	}
}

// P8.1, P8.2: lists that are answered are new memory, spare room too.
func TestNewMemory(t *testing.T) {
	check := func(d *dict.Dict[int]) {
		t.Helper()
		before := viewOf(t, d)
		for c := range uint32(64) {
			l, n := scan.Scan(d, c)
			other, _ := scan.Scan(d, c)
			want := slices.Clone(l)
			spoil(l)
			if !slices.Equal(other, want) {
				t.Errorf("Scan(%d): two lists share memory: %q", c, other)
			}
			checkScan(t, d, c, n, want...)
		}
		l, other := scan.All(d), scan.All(d)
		want := slices.Clone(l)
		spoil(l)
		if !slices.Equal(other, want) {
			t.Errorf("All: two lists share memory: %q", other)
		}
		checkAll(t, d, want...)
		checkView(t, d, before)
	}
	for _, seed := range seeds() {
		check(dict.New[int](seed))
		check(filled(seed, 3))
		check(filled(seed, 100))
		for _, d := range []*dict.Dict[int]{growing(t, seed, 16), shrinking(t, seed, 64, 7), leaping(t, seed, 30)} {
			for range 4 {
				check(d)
				d.Step(3)
			}
		}
	}
}

// checkThings holds that a dict of things of a type tells the same keys, whatever the things.
func checkThings[V any](t *testing.T, things ...V) {
	t.Helper()
	d, same := dict.New[V](3), dict.New[int](3)
	check := func() {
		t.Helper()
		for _, c := range []uint32{0, 1, 2, 3, 6, 9, 13, 40, most} {
			want, next := scan.Scan(same, c)
			checkScan(t, d, c, next, want...)
		}
		checkAll(t, d, scan.All(same)...)
		checkModel(t, d, 0, 1, 5, most)
	}
	check()
	for i := range 70 {
		d.Set(strconv.Itoa(i), things[i%len(things)])
		same.Set(strconv.Itoa(i), i)
		check()
	}
	for i := range 70 {
		d.Delete(strconv.Itoa(i))
		same.Delete(strconv.Itoa(i))
		check()
	}
}

type pair struct {
	name string
	l    []int
}

// P8.1, P8.2: things of several types.
func TestThings(t *testing.T) {
	checkThings(t, 1, -1, 0)
	checkThings(t, "a", "", "\x00")
	checkThings(t, true, false)
	checkThings(t, 1.5, math.NaN())
	checkThings(t, struct{}{})
	checkThings(t, [3]int{1}, [3]int{})
	checkThings(t, []int{1}, nil)
	checkThings(t, &pair{}, nil)
	checkThings(t, pair{"a", []int{1}}, pair{})
	checkThings(t, map[string]int{"a": 1}, nil)
	checkThings(t, func() {}, nil)
	checkThings[any](t, 1, "a", nil, []int{1}, pair{})
	checkThings[error](t, nil, fmt.Errorf("wrong"))
	checkThings(t, dict.New[int](1), nil)
}

// P8.1: scans of several dicts, and several of one, do not know of each other.
func TestApart(t *testing.T) {
	dicts := []*dict.Dict[int]{filled(1, 20), growing(t, 2, 16), shrinking(t, 3, 64, 7), leaping(t, 4, 20), dict.New[int](5)}
	type walk struct {
		d     *dict.Dict[int]
		c     uint32
		told  []string
		ended bool
	}
	var walks []*walk
	for range 3 {
		for _, d := range dicts {
			walks = append(walks, &walk{d: d})
		}
	}
	random := rand.New(rand.NewPCG(8, 4))
	for range 5000 {
		w := walks[random.IntN(len(walks))]
		if w.ended {
			continue
		}
		keys, next := scan.Scan(w.d, w.c)
		w.told, w.c, w.ended = append(w.told, keys...), next, next == 0
	}
	for at, w := range walks {
		if want := slices.Concat(modelAll(t, w.d)...); !w.ended || !slices.Equal(w.told, want) {
			t.Errorf("walk %d is %q, not %q", at, w.told, want)
		}
	}
}
