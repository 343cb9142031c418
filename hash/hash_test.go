package hash_test

import (
	"fmt"
	"math"
	"math/big"
	"math/rand/v2"
	"slices"
	"strconv"
	"strings"
	"testing"

	"palio/api"
	"palio/hash"
)

const most = math.MaxUint32

// modelSum goes by the document's words, with whole numbers that are cut off just where it says so.
func modelSum(seed uint32, s string) uint32 {
	all := new(big.Int).Lsh(big.NewInt(1), 32)
	h := new(big.Int).Xor(big.NewInt(int64(seed)), big.NewInt(2166136261))
	times := func(n int64) {
		h.Mul(h, big.NewInt(n))
		h.Mod(h, all)
	}
	fold := func(n int64) {
		h.Xor(h, new(big.Int).Div(h, big.NewInt(n)))
	}
	for at := range len(s) {
		h.Xor(h, big.NewInt(int64(s[at])))
		times(16777619)
	}
	fold(32768)
	times(2246822519)
	fold(8192)
	return uint32(h.Uint64())
}

// allSizes are written out, as the document's words count them up.
func allSizes() []int {
	return []int{4, 8, 16, 32, 64, 128, 256, 512, 1024, 2048, 4096, 8192, 16384, 32768, 65536}
}

// modelSizeFor tries each size.
func modelSizeFor(n int) int {
	for _, size := range allSizes() {
		if size >= n {
			return size
		}
	}
	return 65536
}

// modelTurn writes all 32 digits out and reads them from the last one on.
func modelTurn(n uint32) uint32 {
	digits := []byte(fmt.Sprintf("%032b", n))
	slices.Reverse(digits)
	turned, err := strconv.ParseUint(string(digits), 2, 32)
	if err != nil {
		panic(err)
	}
	return uint32(turned)
}

func allBytes() string {
	var b []byte
	for n := range 256 {
		b = append(b, byte(n))
	}
	return string(b)
}

// edges are numbers of 32 bits: each power of two, those beside it, some others.
func edges() []uint32 {
	l := []uint32{0, most, 0x55555555, 0xaaaaaaaa, 0x12345678, 0x1e6a2c48, 0x0f0f0f0f, 0x00ff00ff, 0xdeadbeef}
	for bit := range 32 {
		n := uint32(1) << bit
		l = append(l, n-1, n, n+1, ^n)
	}
	return l
}

// wrongSizes are numbers that are no sizes.
func wrongSizes() []int {
	l := []int{math.MinInt, math.MinInt + 1, math.MinInt32, -65536, -8, -5, -4, -3, -2, -1, 0, 1, 2, 3, 5, 6, 7, 9, 12, 15, 17, 48, 1000, 40000, 65535, 65537, 65540, 98304, 131071, 131072, 131073, math.MaxInt32, math.MaxInt - 1, math.MaxInt}
	for bit := 17; bit < 63; bit++ {
		l = append(l, 1<<bit, 1<<bit+4, -1<<bit)
	}
	for _, size := range allSizes() {
		l = append(l, -size, size+1, size*3)
	}
	return l
}

func checkSum(t *testing.T, seed uint32, s string, want uint32) {
	t.Helper()
	if h := hash.Sum(seed, s); h != want {
		t.Errorf("Sum(%d, %.60q of %d) is %08x, not %08x", seed, s, len(s), h, want)
	}
}

func checkSlot(t *testing.T, sum uint32, size int, want int, wantErr api.Errno) {
	t.Helper()
	if slot, e := hash.Slot(sum, size); slot != want || e != wantErr {
		t.Errorf("Slot(%d, %d) is %d, %d, not %d, %d", sum, size, slot, e, want, wantErr)
	}
}

func checkIsSize(t *testing.T, n int, want bool) {
	t.Helper()
	if is := hash.IsSize(n); is != want {
		t.Errorf("IsSize(%d) is %t", n, is)
	}
}

func checkSizeFor(t *testing.T, n int, want int) {
	t.Helper()
	if size := hash.SizeFor(n); size != want {
		t.Errorf("SizeFor(%d) is %d, not %d", n, size, want)
	}
}

func checkTurn(t *testing.T, n uint32, want uint32) {
	t.Helper()
	if turned := hash.Turn(n); turned != want {
		t.Errorf("Turn(%08x) is %08x, not %08x", n, turned, want)
	}
}

// P6.1: hashes by the seeds 0, 1 and the greatest one, reckoned apart from the program.
func TestSum(t *testing.T) {
	for _, c := range []struct {
		s      string
		hashes [3]uint32
	}{
		{"", [3]uint32{0x2d575c95, 0xb3479a8b, 0x60633525}},
		{"a", [3]uint32{0xb4e71039, 0x69077b80, 0x6d010139}},
		{"b", [3]uint32{0x17992057, 0x395a6cbb, 0xcfd82c6b}},
		{"ab", [3]uint32{0x76db9241, 0xaad81f65, 0x42ad6a63}},
		{"ba", [3]uint32{0x75506293, 0x177af7c4, 0xcf90cfed}},
		{"zadd", [3]uint32{0xd46470f4, 0xc2c64ae8, 0x74b799dd}},
		{"board:17", [3]uint32{0x48587064, 0x2a3882a6, 0x44c22d5e}},
		{"\x00", [3]uint32{0x9bd024e6, 0x38886581, 0x13005e89}},
		{"\x00\x00", [3]uint32{0xad7c1a2b, 0xfbe5c904, 0x0d1d6e69}},
		{"a\x00", [3]uint32{0xaeaae777, 0xeeb62a0f, 0x6a80c112}},
		{"\x00a", [3]uint32{0x283de749, 0x5042c610, 0x02d3fe0f}},
		{"\x01", [3]uint32{0x38886581, 0x9bd024e6, 0xdfd5d153}},
		{"\x7f", [3]uint32{0x5d37e1d2, 0x7e616c2b, 0x0e60a7ce}},
		{"\x80", [3]uint32{0xccecc96d, 0x3c4e12f2, 0x056d07c3}},
		{"\x81", [3]uint32{0x3c4e12f2, 0xccecc96d, 0x469e4c4c}},
		{"\xff", [3]uint32{0xa76c0616, 0x543b5095, 0x19eb748c}},
		{"\xff\xfe\xfd", [3]uint32{0x44385f5f, 0x80245161, 0xb4dfa4e0}},
		{"é世", [3]uint32{0xf850769d, 0x20f2afc7, 0x75c56ac7}},
		{"\xed\xa0\x80", [3]uint32{0xac6faea7, 0xc3215205, 0xc963cbe4}},
		{strings.Repeat("x", 1000), [3]uint32{0xead4cc96, 0x2d9871dd, 0x45226a0d}},
		{allBytes(), [3]uint32{0xa446e095, 0xce56002a, 0x9c0d4d6f}},
	} {
		for at, seed := range []uint32{0, 1, most} {
			checkSum(t, seed, c.s, c.hashes[at])
		}
	}
}

// P6.1: seeds after which there is nothing but noughts, one or ones, at the beginning or later on.
func TestSumSeeds(t *testing.T) {
	const begin = 2166136261
	for _, c := range []struct {
		seed uint32
		s    string
		h    uint32
	}{
		{begin, "", 0},
		{begin, "\x00", 0},
		{begin, "\x00\x00\x00", 0},
		{begin, "a", 0x1a204dba},
		{begin ^ 1, "", 0x85efe529},
		{begin ^ 1, "\x01", 0},
		{begin ^ 1, "\x01\x00", 0},
		{begin ^ most, "", 0x6b115890},
		{begin ^ most, "\xff", 0x831833c5},
		{begin ^ 0x8000, "", 0x6b24134d},
		{begin ^ 0x7fff, "", 0x5f4d4ff4},
		{1 << 31, "", 0xe2d820dd},
		{1 << 31, "\x00", 0xe64cc81e},
	} {
		checkSum(t, c.seed, c.s, c.h)
	}
}

// P6.1: each byte, each seed at the edges, texts of each length up to a great one, held against whole numbers that are cut off.
func TestSumModel(t *testing.T) {
	for _, seed := range edges() {
		for _, s := range []string{"", "\x00", "a", "\x80\xff", "é", "palio", allBytes()} {
			checkSum(t, seed, s, modelSum(seed, s))
		}
	}
	for n := range 256 {
		for _, seed := range []uint32{0, 1, 7, most} {
			one := string([]byte{byte(n)})
			checkSum(t, seed, one, modelSum(seed, one))
			checkSum(t, seed, "k"+one+"\x00", modelSum(seed, "k"+one+"\x00"))
		}
	}
	random := rand.New(rand.NewPCG(6, 1))
	for n := range 600 {
		b := make([]byte, n)
		for at := range b {
			b[at] = byte(random.Uint32())
		}
		seed := random.Uint32()
		checkSum(t, seed, string(b), modelSum(seed, string(b)))
	}
	long := strings.Repeat("\xff\x00palio", 100000)
	checkSum(t, 9, long, modelSum(9, long))
}

// P6.1: a hash hangs on the seed and the bytes alone, whatever was asked ahead.
func TestSumKeepsNothing(t *testing.T) {
	b := []byte("board:17")
	first := hash.Sum(0, string(b))
	for seed := range uint32(100) {
		hash.Sum(seed, strings.Repeat("y", int(seed)))
	}
	if again := hash.Sum(0, "xboard:17x"[1:9]); first != again || string(b) != "board:17" {
		t.Errorf("%08x, then %08x", first, again)
	}
}

// P6.1: what is a size, and what is none.
func TestIsSize(t *testing.T) {
	for _, n := range allSizes() {
		checkIsSize(t, n, true)
	}
	for _, n := range wrongSizes() {
		checkIsSize(t, n, false)
	}
	for n := -140000; n <= 140000; n++ {
		checkIsSize(t, n, slices.Contains(allSizes(), n))
	}
}

// P6.1: slots at each size, written out and by the words.
func TestSlot(t *testing.T) {
	for _, c := range []struct {
		sum        uint32
		size, slot int
	}{
		{21, 8, 5}, {21, 4, 1}, {21, 16, 5}, {21, 32, 21}, {0, 4, 0}, {3, 4, 3}, {4, 4, 0}, {7, 4, 3},
		{most, 4, 3}, {most, 1024, 1023}, {most, 65536, 65535}, {65536, 65536, 0}, {65535, 65536, 65535}, {65537, 65536, 1},
		{1 << 31, 4, 0}, {1 << 31, 65536, 0}, {1<<31 + 5, 8, 5}, {0x12345678, 65536, 0x5678}, {0x12345678, 256, 0x78},
	} {
		checkSlot(t, c.sum, c.size, c.slot, api.OK)
	}
	for _, size := range allSizes() {
		for _, sum := range append(edges(), uint32(size)*3-1, uint32(size)*5, uint32(size)*7+1) {
			checkSlot(t, sum, size, int(int64(sum)%int64(size)), api.OK)
		}
	}
}

// P6.1: what is no size has no slots.
func TestSlotFaults(t *testing.T) {
	for _, size := range wrongSizes() {
		for _, sum := range []uint32{0, 1, 21, 1 << 31, most} {
			checkSlot(t, sum, size, 0, api.ErrArg)
		}
	}
}

// P6.2: the least size for numbers at the edges.
func TestSizeFor(t *testing.T) {
	for n, want := range map[int]int{
		math.MinInt: 4, math.MinInt32: 4, -65536: 4, -5: 4, -1: 4, 0: 4, 1: 4, 2: 4, 3: 4, 4: 4, 5: 8, 6: 8, 7: 8, 8: 8, 9: 16, 1000: 1024, 1025: 2048,
		32768: 32768, 32769: 65536, 65535: 65536, 65536: 65536, 65537: 65536, 70000: 65536, 131072: 65536, math.MaxInt32: 65536, 1 << 40: 65536, math.MaxInt - 1: 65536, math.MaxInt: 65536,
	} {
		checkSizeFor(t, n, want)
	}
	for _, size := range allSizes() {
		checkSizeFor(t, size-1, size)
		checkSizeFor(t, size, size)
		checkSizeFor(t, size+1, min(2*size, 65536))
	}
	for n := -140000; n <= 140000; n++ {
		checkSizeFor(t, n, modelSizeFor(n))
	}
}

// P6.2: numbers turned, written out and digit by digit.
func TestTurn(t *testing.T) {
	for n, want := range map[uint32]uint32{
		0: 0, 1: 0x80000000, 2: 0x40000000, 3: 0xc0000000, 4: 0x20000000, 0x80000000: 1, 0x40000000: 2, most: most, most - 1: 0x7fffffff,
		0x12345678: 0x1e6a2c48, 0x55555555: 0xaaaaaaaa, 0x0000ffff: 0xffff0000, 0x00ff00ff: 0xff00ff00, 0x0f0f0f0f: 0xf0f0f0f0, 0x33333333: 0xcccccccc,
		0x00010000: 0x00008000, 0xdeadbeef: 0xf77db57b, 0x00000081: 0x81000000, 0x01020304: 0x20c04080,
	} {
		checkTurn(t, n, want)
	}
	for bit := range 32 {
		checkTurn(t, 1<<bit, 1<<(31-bit))
	}
	random := rand.New(rand.NewPCG(6, 2))
	for range 10000 {
		n := random.Uint32()
		checkTurn(t, n, modelTurn(n))
	}
}

// P6.3: turned twice a number is what it was.
func TestTurnTwice(t *testing.T) {
	check := func(n uint32) {
		if twice := hash.Turn(hash.Turn(n)); twice != n {
			t.Errorf("%08x is %08x, turned twice", n, twice)
		}
	}
	for _, n := range edges() {
		check(n)
	}
	for n := range uint32(1 << 16) {
		check(n)
		check(n << 16)
		check(n * 65537)
	}
}

// P6.3: in a table twice as great the slot is the same, or that and the size, and both are there.
func TestSlotTwiceAsGreat(t *testing.T) {
	sums := edges()
	for n := range 2000 {
		sums = append(sums, hash.Sum(uint32(n%3), fmt.Sprint("key", n)))
	}
	for _, size := range allSizes()[:14] {
		var stay, moved int
		for _, sum := range sums {
			slot, e := hash.Slot(sum, size)
			twice, f := hash.Slot(sum, 2*size)
			switch {
			case e != api.OK || f != api.OK || slot < 0 || slot >= size:
				t.Errorf("%d in %d: %d, %d; %d, %d", sum, size, slot, e, twice, f)
			case twice == slot:
				stay++
			case twice == slot+size:
				moved++
			default:
				t.Errorf("%d is in slot %d of %d, but %d of %d", sum, slot, size, twice, 2*size)
			}
		}
		if stay == 0 || moved == 0 {
			t.Errorf("of %d: %d stay, %d move", size, stay, moved)
		}
	}
}
