package lfu_test

import (
	"math"
	"math/big"
	"math/rand/v2"
	"slices"
	"testing"

	"palio/api"
	"palio/lfu"
)

func use(count int, at int) api.Use { return api.Use{Count: count, At: at} }

// uses are those of counts and minutes in turn.
func uses(parts ...int) []api.Use {
	var l []api.Use
	for n := 0; n+1 < len(parts); n += 2 {
		l = append(l, use(parts[n], parts[n+1]))
	}
	return l
}

// rightCounts and wrongCounts are counts at their ends, and next to them.
func rightCounts() []int {
	return []int{0, 1, 2, 4, 5, 6, 7, 10, 127, 128, 250, 253, 254, 255}
}

func wrongCounts() []int {
	return []int{-1, -2, -5, -255, -256, -1 << 31, math.MinInt + 1, math.MinInt, 256, 257, 261, 511, 512, 1 << 31, 1 << 32, 1<<32 + 5, math.MaxInt - 1, math.MaxInt}
}

func rightMinutes() []int {
	return []int{0, 1, 2, 4, 5, 6, 254, 255, 256, 1000, 1<<31 - 1, 1 << 31, 1 << 32, 1<<62 - 1, math.MaxInt - 256, math.MaxInt - 255, math.MaxInt - 1, math.MaxInt}
}

func wrongMinutes() []int {
	return []int{-1, -2, -5, -255, -256, -1 << 31, -1 << 32, -1 << 62, math.MinInt + 1, math.MinInt}
}

// wrongUses are uses of which one part at least is none of a use's.
func wrongUses() []api.Use {
	var l []api.Use
	for _, count := range wrongCounts() {
		for _, at := range append(rightMinutes(), wrongMinutes()...) {
			l = append(l, use(count, at))
		}
	}
	for _, count := range rightCounts() {
		for _, at := range wrongMinutes() {
			l = append(l, use(count, at))
		}
	}
	return l
}

// modelRight tells by the document's words whether a use is right.
func modelRight(u api.Use) bool {
	return u.Count >= 0 && u.Count <= 255 && u.At >= 0
}

func modelWrong(u api.Use, now int) bool { return !modelRight(u) || now < u.At }

// modelCount takes the minutes between from a right use's count, in numbers without ends.
func modelCount(u api.Use, now int) int {
	between := new(big.Int).Sub(big.NewInt(int64(now)), big.NewInt(int64(u.At)))
	left := between.Sub(big.NewInt(int64(u.Count)), between)
	if left.Sign() < 0 {
		return 0
	}
	return int(left.Int64())
}

// modelSteps is what a draw is held against: 1, and 10 more for each that the count is above 5.
func modelSteps(count int) uint64 {
	n := uint64(1)
	for ; count > 5; count-- {
		n += 10
	}
	return n
}

// modelTouch is the use that a right one becomes.
func modelTouch(u api.Use, now int, draw uint32) api.Use {
	count := modelCount(u, now)
	if count < 255 && uint64(draw)%modelSteps(count) == 0 {
		count++
	}
	return use(count, now)
}

// modelLeast goes down from the greatest count, and takes the first use that it comes to at the last of them.
func modelLeast(l []api.Use, now int) (int, api.Errno) {
	if len(l) == 0 || slices.ContainsFunc(l, func(u api.Use) bool { return modelWrong(u, now) }) {
		return 0, 130
	}
	var counts []int
	for _, u := range l {
		counts = append(counts, modelCount(u, now))
	}
	place := 0
	for count := 255; count >= 0; count-- {
		if at := slices.Index(counts, count); at >= 0 {
			place = at
		}
	}
	return place, 0
}

func checkRight(t *testing.T, u api.Use, want bool) {
	t.Helper()
	if right := lfu.Right(u); right != want {
		t.Fatalf("Right of %v is %t", u, right)
	}
}

func checkNew(t *testing.T, now int, want api.Use, wantErr api.Errno) {
	t.Helper()
	if u, e := lfu.New(now); u != want || e != wantErr {
		t.Fatalf("New of %d is %v, %d, not %v, %d", now, u, e, want, wantErr)
	}
}

func checkCount(t *testing.T, u api.Use, now int, want int, wantErr api.Errno) {
	t.Helper()
	if count, e := lfu.Count(u, now); count != want || e != wantErr {
		t.Fatalf("Count of %v at %d is %d, %d, not %d, %d", u, now, count, e, want, wantErr)
	}
}

func checkTouch(t *testing.T, u api.Use, now int, draw uint32, want api.Use, wantErr api.Errno) {
	t.Helper()
	if touched, e := lfu.Touch(u, now, draw); touched != want || e != wantErr {
		t.Fatalf("Touch of %v at %d with %d is %v, %d, not %v, %d", u, now, draw, touched, e, want, wantErr)
	}
}

func checkLeast(t *testing.T, l []api.Use, now int, want int, wantErr api.Errno) {
	t.Helper()
	if at, e := lfu.Least(l, now); at != want || e != wantErr {
		t.Fatalf("Least of %v at %d is %d, %d, not %d, %d", l[:min(len(l), 10)], now, at, e, want, wantErr)
	}
}

// checkWrong asks for ErrLfu, and zero values beside it, wherever one use may be wrong.
func checkWrong(t *testing.T, u api.Use, now int) {
	t.Helper()
	checkCount(t, u, now, 0, api.ErrLfu)
	for _, draw := range []uint32{0, 1, math.MaxUint32} {
		checkTouch(t, u, now, draw, api.Use{}, api.ErrLfu)
	}
	checkLeast(t, []api.Use{u}, now, 0, api.ErrLfu)
}

// draws are 0, 1, the greatest ones, and those next to multiples of a count's steps.
func draws(count int) []uint32 {
	l := []uint32{0, 1, 2, 3, 9, 10, 11, 12, 20, 21, 22, 1<<31 - 1, 1 << 31, 1<<31 + 1, math.MaxUint32 - 1, math.MaxUint32}
	steps := modelSteps(count)
	last := math.MaxUint32 / steps
	for _, times := range []uint64{1, 2, 3, 7, 1000, last / 2, last - 1, last} {
		for d := range uint64(3) {
			if draw := times*steps + d - 1; draw <= math.MaxUint32 {
				l = append(l, uint32(draw))
			}
		}
	}
	return l
}

// P14.1: which uses are right.
func TestRight(t *testing.T) {
	for _, c := range []struct {
		count, at int
		want      bool
	}{
		{0, 0, true}, {5, 0, true}, {255, 0, true}, {0, 1, true}, {5, 7, true}, {255, 1000, true}, {0, math.MaxInt, true}, {5, math.MaxInt, true}, {255, math.MaxInt, true},
		{-1, 0, false}, {256, 0, false}, {-1, 5, false}, {256, 5, false}, {math.MinInt, 0, false}, {math.MaxInt, 0, false}, {math.MinInt, math.MaxInt, false}, {math.MaxInt, math.MaxInt, false},
		{0, -1, false}, {5, -1, false}, {255, -1, false}, {0, math.MinInt, false}, {255, math.MinInt, false}, {-1, -1, false}, {256, -1, false}, {math.MaxInt, math.MinInt, false}, {math.MinInt, math.MinInt, false},
	} {
		checkRight(t, use(c.count, c.at), c.want)
	}
	checkRight(t, api.Use{}, true)
	for count := -1000; count <= 1000; count++ {
		for _, at := range rightMinutes() {
			checkRight(t, use(count, at), count >= 0 && count < 256)
		}
		for _, at := range wrongMinutes() {
			checkRight(t, use(count, at), false)
		}
	}
	for _, u := range wrongUses() {
		checkRight(t, u, false)
	}
}

// P14.1: new uses, of the count 5.
func TestNew(t *testing.T) {
	checkNew(t, 0, use(5, 0), api.OK)
	checkNew(t, 1, use(5, 1), api.OK)
	checkNew(t, 4, use(5, 4), api.OK)
	checkNew(t, math.MaxInt, use(5, math.MaxInt), api.OK)
	for _, now := range rightMinutes() {
		checkNew(t, now, use(5, now), api.OK)
		u, _ := lfu.New(now)
		checkRight(t, u, true)
		checkCount(t, u, now, 5, api.OK)
	}
	checkNew(t, -1, api.Use{}, api.ErrLfu)
	checkNew(t, math.MinInt, api.Use{}, api.ErrLfu)
	for _, now := range wrongMinutes() {
		checkNew(t, now, api.Use{}, api.ErrLfu)
	}
}

// P14.1: counts at minutes, written out.
func TestCount(t *testing.T) {
	for _, c := range []struct{ count, at, now, want int }{
		{7, 3, 5, 5}, {7, 3, 3, 7}, {7, 3, 4, 6}, {7, 3, 9, 1}, {7, 3, 10, 0}, {7, 3, 11, 0}, {7, 3, 1000, 0},
		{0, 0, 0, 0}, {0, 0, 1, 0}, {0, 9, 9, 0}, {1, 0, 0, 1}, {1, 0, 1, 0}, {1, 0, 2, 0}, {5, 0, 4, 1}, {5, 0, 5, 0}, {5, 0, 6, 0},
		{255, 0, 0, 255}, {255, 0, 1, 254}, {255, 0, 254, 1}, {255, 0, 255, 0}, {255, 0, 256, 0}, {255, 10, 110, 155}, {254, 100, 300, 54},
		{255, 0, math.MaxInt, 0}, {0, 0, math.MaxInt, 0}, {5, 1, math.MaxInt, 0}, {255, math.MaxInt, math.MaxInt, 255}, {255, math.MaxInt - 1, math.MaxInt, 254},
		{255, math.MaxInt - 254, math.MaxInt, 1}, {255, math.MaxInt - 255, math.MaxInt, 0}, {255, math.MaxInt - 256, math.MaxInt, 0}, {6, 1 << 32, 1<<32 + 2, 4}, {6, 0, 1 << 32, 0}, {6, 0, 1 << 31, 0}, {6, 0, 256, 0}, {6, 0, 1<<32 + 1, 0},
	} {
		checkCount(t, use(c.count, c.at), c.now, c.want, api.OK)
	}
}

// P14.1: what is wrong, of the use and of the minute.
func TestCountTouchWrong(t *testing.T) {
	for _, u := range wrongUses() {
		for _, now := range []int{u.At, 0, 5, math.MaxInt, -1, math.MinInt} {
			checkWrong(t, u, now)
		}
	}
	for _, count := range rightCounts() {
		for _, at := range rightMinutes() {
			for _, now := range []int{at - 1, at/2 - 1, at - 255, at - 256, -1, -2, math.MinInt, math.MinInt + 1} {
				if now < at {
					checkWrong(t, use(count, at), now)
				}
			}
		}
	}
	checkWrong(t, use(1, 5), 4)
	checkWrong(t, use(256, 5), 5)
	checkWrong(t, use(-1, 5), 5)
	checkWrong(t, use(5, -1), 5)
	checkWrong(t, use(5, 0), -1)
	checkWrong(t, use(255, math.MaxInt), math.MaxInt-1)
	checkWrong(t, use(255, math.MaxInt), math.MinInt)
}

// P14.1: all counts, at minutes near and far, are held against the model.
func TestCountAll(t *testing.T) {
	for count := range 256 {
		for _, at := range []int{0, 1, 77, 1 << 32, math.MaxInt - 300} {
			for between := range 300 {
				checkCount(t, use(count, at), at+between, max(count-between, 0), api.OK)
			}
		}
		for _, at := range rightMinutes() {
			for _, now := range rightMinutes() {
				if now >= at {
					checkCount(t, use(count, at), now, modelCount(use(count, at), now), api.OK)
				}
			}
		}
	}
}

// P14.1: uses touched, written out.
func TestTouch(t *testing.T) {
	for _, c := range []struct {
		count, at, now int
		draw           uint32
		want           int
	}{
		{7, 3, 5, 0, 6}, {7, 3, 5, 1, 6}, {7, 3, 5, math.MaxUint32, 6}, {7, 3, 3, 0, 8}, {7, 3, 3, 21, 8}, {7, 3, 3, 42, 8}, {7, 3, 3, 11, 7}, {7, 3, 3, 20, 7}, {7, 3, 3, 22, 7},
		{0, 0, 0, 0, 1}, {0, 0, 0, 1, 1}, {0, 0, 0, 7, 1}, {0, 0, 0, math.MaxUint32, 1}, {4, 0, 0, 3, 5}, {5, 0, 0, 0, 6}, {5, 0, 0, 1, 6}, {5, 0, 0, 2, 6}, {5, 0, 0, 12, 6}, {5, 4, 4, math.MaxUint32, 6},
		{6, 0, 0, 0, 7}, {6, 0, 0, 1, 6}, {6, 0, 0, 2, 6}, {6, 0, 0, 10, 6}, {6, 0, 0, 11, 7}, {6, 0, 0, 12, 6}, {6, 0, 0, 22, 7}, {6, 0, 0, 4294967281, 7}, {6, 0, 0, 4294967291, 6}, {6, 0, 0, 4294967292, 7}, {6, 0, 0, 4294967293, 6}, {6, 0, 0, math.MaxUint32, 6},
		{9, 0, 0, 41, 10}, {9, 0, 0, 40, 9}, {9, 0, 0, 42, 9}, {105, 0, 0, 1001, 106}, {105, 0, 0, 1000, 105}, {105, 0, 0, 1002, 105}, {105, 0, 0, 2002, 106},
		{254, 0, 0, 0, 255}, {254, 0, 0, 1, 254}, {254, 0, 0, 2490, 254}, {254, 0, 0, 2491, 255}, {254, 0, 0, 2492, 254}, {254, 0, 0, 4982, 255}, {254, 0, 0, 2540, 254}, {254, 0, 0, 4294967253, 254}, {254, 0, 0, 4294967254, 255}, {254, 0, 0, 4294967255, 254}, {254, 0, 0, math.MaxUint32, 254},
		{255, 0, 0, 0, 255}, {255, 0, 0, 1, 255}, {255, 0, 0, 2501, 255}, {255, 0, 0, 2500, 255}, {255, 0, 0, math.MaxUint32, 255}, {255, 9, 9, 0, 255},
		{255, 0, 1, 0, 255}, {255, 0, 1, 2491, 255}, {255, 0, 1, 2501, 254}, {255, 0, 2, 0, 254}, {255, 0, 2, 2481, 254}, {255, 0, 2, 2491, 253}, {255, 0, 250, 7, 6}, {255, 0, 249, 7, 6}, {255, 0, 249, 11, 7},
		{6, 4, 9, 12, 2}, {6, 4, 900, 1, 1}, {6, 4, 5, 3, 6}, {6, 4, 10, 3, 1}, {6, 4, 11, 3, 1}, {1, 0, 1, 9, 1}, {0, 0, 1, 9, 1}, {0, 0, math.MaxInt, 5, 1}, {255, 0, math.MaxInt, math.MaxUint32, 1}, {255, math.MaxInt, math.MaxInt, 0, 255}, {254, math.MaxInt, math.MaxInt, 0, 255},
	} {
		checkTouch(t, use(c.count, c.at), c.now, c.draw, use(c.want, c.now), api.OK)
	}
}

// P14.1: all counts, with draws next to the steps of what they fall to, are held against the model.
func TestTouchAll(t *testing.T) {
	for count := range 256 {
		for _, at := range []int{0, 33, math.MaxInt - 300} {
			for _, between := range []int{0, 1, 2, 10, count - 7, count - 6, count - 5, count - 1, count, count + 1, 300} {
				if between < 0 {
					continue
				}
				u, now := use(count, at), at+between
				for _, draw := range slices.Concat(draws(modelCount(u, now)), draws(count)) {
					checkTouch(t, u, now, draw, modelTouch(u, now, draw), api.OK)
				}
			}
		}
	}
}

// P14.1: any uses, minutes and draws, right or not.
func TestCountTouchAny(t *testing.T) {
	r := rand.New(rand.NewPCG(14, 1))
	for range 200000 {
		u := use(r.IntN(262)-3, r.IntN(305)-3)
		now := u.At + r.IntN(300) - 20
		draw := r.Uint32()
		if r.IntN(2) == 0 {
			draw = uint32(r.IntN(3000))
		}
		if modelWrong(u, now) {
			checkCount(t, u, now, 0, api.ErrLfu)
			checkTouch(t, u, now, draw, api.Use{}, api.ErrLfu)
			continue
		}
		checkCount(t, u, now, modelCount(u, now), api.OK)
		checkTouch(t, u, now, draw, modelTouch(u, now, draw), api.OK)
	}
}

// P14.2: the least of uses, written out.
func TestLeast(t *testing.T) {
	for _, c := range []struct {
		l         []api.Use
		now, want int
	}{
		{uses(0, 0), 0, 0}, {uses(255, 0), 0, 0}, {uses(255, 9), 9, 0}, {uses(5, 0), math.MaxInt, 0}, {uses(255, math.MaxInt), math.MaxInt, 0},
		{uses(1, 0, 2, 0, 3, 0), 0, 0}, {uses(2, 0, 1, 0, 3, 0), 0, 1}, {uses(3, 0, 2, 0, 1, 0), 0, 2}, {uses(1, 0, 0, 0), 0, 1}, {uses(0, 0, 1, 0), 0, 0},
		{uses(5, 0, 5, 0), 0, 0}, {uses(0, 0, 0, 0, 0, 0), 0, 0}, {uses(255, 0, 255, 0, 255, 0), 0, 0}, {uses(255, 0, 254, 0, 254, 0), 0, 1}, {uses(255, 0, 255, 0, 254, 0), 0, 2},
		{uses(3, 0, 2, 0, 2, 0, 2, 0), 0, 1}, {uses(9, 0, 8, 0, 9, 0, 8, 0, 7, 0, 7, 0), 0, 4}, {uses(2, 0, 9, 0, 2, 0), 0, 0}, {uses(9, 0, 0, 0, 5, 0, 0, 0), 0, 1},
		{uses(9, 1, 5, 9, 4, 8, 3, 9), 9, 0}, {uses(9, 6, 5, 9, 4, 8, 3, 9), 9, 2}, {uses(9, 6, 5, 9, 4, 8, 3, 9), 10, 2}, {uses(9, 6, 5, 9, 4, 8, 3, 9), 12, 2},
		{uses(5, 10, 9, 4), 10, 1}, {uses(5, 10, 10, 4), 10, 1}, {uses(5, 10, 11, 4), 10, 0}, {uses(5, 10, 12, 4), 10, 0}, {uses(5, 10, 11, 4), 14, 0}, {uses(5, 10, 9, 4), 14, 1}, {uses(5, 10, 9, 4), 15, 0}, {uses(5, 10, 9, 4), math.MaxInt, 0},
		{uses(255, 0, 0, math.MaxInt), math.MaxInt, 0}, {uses(1, math.MaxInt, 255, math.MaxInt-255), math.MaxInt, 1}, {uses(1, math.MaxInt, 255, math.MaxInt-254), math.MaxInt, 0}, {uses(0, math.MaxInt, 255, 0), math.MaxInt, 0},
	} {
		checkLeast(t, c.l, c.now, c.want, api.OK)
	}
	for _, now := range append(rightMinutes(), wrongMinutes()...) {
		checkLeast(t, nil, now, 0, api.ErrLfu)
		checkLeast(t, []api.Use{}, now, 0, api.ErrLfu)
		checkLeast(t, make([]api.Use, 0, 4), now, 0, api.ErrLfu)
	}
}

// P14.2: uses whose counts stand in another order at the minute than when they were told, and become one as they come down to 0.
func TestLeastTurns(t *testing.T) {
	early, late := use(40, 0), use(20, 30)
	for now := 30; now < 60; now++ {
		checkLeast(t, []api.Use{early, late}, now, 0, api.OK)
		at := 1
		if now >= 50 {
			at = 0
		}
		checkLeast(t, []api.Use{late, early}, now, at, api.OK)
	}
	l := uses(30, 10, 24, 20, 12, 40, 3, 41)
	for now := 41; now < 60; now++ {
		want, wantErr := modelLeast(l, now)
		checkLeast(t, l, now, want, wantErr)
	}
	checkLeast(t, l[:2], 20, 0, api.OK)
	checkLeast(t, uses(30, 10, 19, 20), 20, 1, api.OK)
	checkLeast(t, uses(30, 10, 19, 20), 38, 1, api.OK)
	checkLeast(t, uses(30, 10, 19, 20), 39, 1, api.OK)
	checkLeast(t, uses(30, 10, 19, 20), 40, 0, api.OK)
}

// P14.2: one use of which something is wrong, at each place, ahead of or behind a count of 0 too.
func TestLeastWrong(t *testing.T) {
	wrong := append(wrongUses(), use(5, 101), use(0, 101), use(255, 101), use(0, 1000), use(255, math.MaxInt))
	for _, l := range [][]api.Use{uses(5, 0), uses(5, 100, 200, 50), uses(0, 100, 0, 0, 0, 7), uses(255, 100, 254, 100, 253, 100, 252, 100, 251, 100)} {
		checkLeast(t, l, 100, modelPlace(l, 100), api.OK)
		for at := range len(l) + 1 {
			for _, u := range wrong {
				checkLeast(t, slices.Insert(slices.Clone(l), at, u), 100, 0, api.ErrLfu)
			}
		}
	}
	for _, now := range wrongMinutes() {
		checkLeast(t, uses(5, 0), now, 0, api.ErrLfu)
		checkLeast(t, uses(0, 0, 1, 0), now, 0, api.ErrLfu)
	}
	for _, at := range rightMinutes() {
		checkLeast(t, uses(0, 0, 9, at), at, 0, api.OK)
		checkLeast(t, uses(0, 0, 9, at), at-1, 0, api.ErrLfu)
		checkLeast(t, uses(9, at, 0, 0), at-1, 0, api.ErrLfu)
	}
}

// modelPlace is the place that modelLeast tells.
func modelPlace(l []api.Use, now int) int {
	at, _ := modelLeast(l, now)
	return at
}

// P14.2: lists of any uses, held against the model.
func TestLeastAny(t *testing.T) {
	r := rand.New(rand.NewPCG(14, 2))
	for range 30000 {
		most, from := 1+r.IntN(256), r.IntN(200)
		var l []api.Use
		for range r.IntN(12) {
			l = append(l, use(r.IntN(most), from+r.IntN(60)))
			if r.IntN(60) == 0 {
				l[len(l)-1] = wrongUses()[r.IntN(len(wrongUses()))]
			}
		}
		for _, now := range []int{from + 59, from + 60 + r.IntN(100), from + r.IntN(60), math.MaxInt} {
			want, wantErr := modelLeast(l, now)
			checkLeast(t, l, now, want, wantErr)
		}
	}
}

// P14.2: very many uses, the least of them at the beginning, in the middle, at the end, and more than once.
func TestLeastMany(t *testing.T) {
	const many = 1 << 18
	l := make([]api.Use, many)
	for n := range l {
		l[n] = use(100+n%150, 1000)
	}
	checkLeast(t, l, 1000, 0, api.OK)
	checkLeast(t, l[1:], 1000, 149, api.OK)
	for _, at := range []int{many - 1, many / 2, 1, 0} {
		l[at] = use(99, 1000)
		checkLeast(t, l, 1000, at, api.OK)
		checkLeast(t, l, 1099, at, api.OK)
		checkLeast(t, l, 1249, 0, api.OK)
		checkLeast(t, l, 999, 0, api.ErrLfu)
	}
	for _, at := range []int{0, many / 2, many - 1} {
		for _, u := range []api.Use{use(256, 1000), use(-1, 1000), use(5, -1), use(5, 1001)} {
			was := l[at]
			l[at] = u
			checkLeast(t, l, 1000, 0, api.ErrLfu)
			l[at] = was
		}
	}
}

// P14.3: a touch lets a use's count at that minute rise by one at most, never fall, and keeps the use right.
func TestRises(t *testing.T) {
	r := rand.New(rand.NewPCG(14, 3))
	for range 300000 {
		u := use(r.IntN(256), r.IntN(1000))
		now := u.At + r.IntN(300)
		before, _ := lfu.Count(u, now)
		touched, e := lfu.Touch(u, now, uint32(r.IntN(5000)))
		after, again := lfu.Count(touched, now)
		if e != api.OK || again != api.OK || after < before || after > before+1 || !lfu.Right(touched) || touched.At != now {
			t.Fatalf("Touch of %v at %d is %v, %d: its count goes from %d to %d", u, now, touched, e, before, after)
		}
	}
}

// P14.3: each minute takes one away, until nothing is left; how often it is asked takes none.
func TestFalls(t *testing.T) {
	for count := range 256 {
		u := use(count, 50)
		for now := 50; now < 320; now++ {
			here, e := lfu.Count(u, now)
			next, eNext := lfu.Count(u, now+1)
			again, eAgain := lfu.Count(u, now)
			if e != api.OK || eNext != api.OK || eAgain != api.OK || next != max(here-1, 0) || again != here {
				t.Fatalf("Count of %v goes from %d (then %d) at %d to %d", u, here, again, now, next)
			}
		}
	}
}

// P14.3: of the draws ahead of a great one, those that let a count rise are ever fewer, from 5 on; a new one's and lesser counts rise with each.
func TestFewerDraws(t *testing.T) {
	const many = 1 << 17
	before := many + 1
	for count := range 256 {
		rises := 0
		for draw := range uint32(many) {
			touched, e := lfu.Touch(use(count, 7), 7, draw)
			if e != api.OK || touched.At != 7 {
				t.Fatalf("Touch of %d with %d is %v, %d", count, draw, touched, e)
			}
			rises += touched.Count - count
		}
		want := (many-1)/int(modelSteps(count)) + 1
		if count == 255 {
			want = 0
		}
		if rises != want || rises > before || count < 6 && rises != many || count > 5 && count < 80 && rises >= before {
			t.Fatalf("%d draws let %d rise, not %d; %d the count ahead of it", rises, count, want, before)
		}
		before = rises
	}
}

// P14.3: the first draw behind 0 with which a count rises is ever later.
func TestFirstDraw(t *testing.T) {
	before := uint32(1)
	for count := 6; count < 255; count++ {
		draw := uint32(1)
		for ; draw < 5000; draw++ {
			if touched, _ := lfu.Touch(use(count, 0), 0, draw); touched.Count > count {
				break
			}
		}
		if draw != before+10 {
			t.Fatalf("%d rises with the draw %d, the count ahead of it with %d", count, draw, before)
		}
		before = draw
	}
}

// P14.3, P14.1: a use that is touched on and on with the draw 0 rises to 255 and stays there, and falls only as time goes by.
func TestOnAndOn(t *testing.T) {
	u, e := lfu.New(3)
	for want := 6; want < 300; want++ {
		u, e = lfu.Touch(u, 3, 0)
		if u != use(min(want, 255), 3) || e != api.OK {
			t.Fatalf("a use rises to %v, %d, not to %d", u, e, want)
		}
	}
	checkCount(t, u, 4, 254, api.OK)
	for now := 4; now < 600; now++ {
		was := u.Count
		u, e = lfu.Touch(u, now, math.MaxUint32)
		want := max(was-1, 0)
		if math.MaxUint32%modelSteps(want) == 0 {
			want++
		}
		if u != use(want, now) || e != api.OK {
			t.Fatalf("at %d a use falls from %d to %v, %d", now, was, u, e)
		}
	}
	// 771, the steps of 82, go into the greatest draw, so that what falls to 82 rises again.
	if u.Count != 83 {
		t.Fatalf("a use that is touched each minute with the greatest draw is %v in the end", u)
	}
}

// R3: what Least is given stays, its spare room too, and is not kept; nil and empty are one.
func TestGivenStays(t *testing.T) {
	room := uses(9, 6, 5, 9, 4, 8, 3, 9, 77, 77, -7, -7)
	was := slices.Clone(room)
	for _, now := range []int{9, 8, -1, 500} {
		for n := range room {
			l := room[:n]
			want, wantErr := modelLeast(l, now)
			checkLeast(t, l, now, want, wantErr)
			if !slices.Equal(room, was) {
				t.Fatalf("Least of %d at %d has written into what it was given: %v", n, now, room)
			}
		}
	}
	l := uses(1, 0, 2, 0)
	checkLeast(t, l, 0, 0, api.OK)
	l[0].Count = 3
	checkLeast(t, l, 0, 1, api.OK)
}

// R4: nothing is kept: the same calls in another order answer the same.
func TestNothingKept(t *testing.T) {
	r := rand.New(rand.NewPCG(14, 4))
	l := uses(9, 6, 5, 9, 4, 8, 3, 9)
	calls := []func(){
		func() { checkNew(t, 4, use(5, 4), api.OK) },
		func() { checkNew(t, -1, api.Use{}, api.ErrLfu) },
		func() { checkCount(t, use(7, 3), 5, 5, api.OK) },
		func() { checkCount(t, use(7, 3), 2, 0, api.ErrLfu) },
		func() { checkTouch(t, use(7, 3), 5, 0, use(6, 5), api.OK) },
		func() { checkTouch(t, use(7, 3), 3, 1, use(7, 3), api.OK) },
		func() { checkTouch(t, use(256, 3), 5, 0, api.Use{}, api.ErrLfu) },
		func() { checkLeast(t, l, 9, 2, api.OK) },
		func() { checkLeast(t, l, 8, 0, api.ErrLfu) },
		func() { checkLeast(t, nil, 8, 0, api.ErrLfu) },
		func() { checkRight(t, use(255, 0), true) },
		func() { checkRight(t, use(256, 0), false) },
	}
	for range 5000 {
		calls[r.IntN(len(calls))]()
	}
}
