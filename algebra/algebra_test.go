package algebra_test

import (
	"math"
	"math/big"
	"math/rand/v2"
	"slices"
	"strconv"
	"strings"
	"testing"

	"palio/algebra"
	"palio/api"
)

const (
	least = math.MinInt64
	most  = math.MaxInt64
)

func entry(member string, score int64) api.Entry { return api.Entry{Member: member, Score: score} }

// list are the entries that a text tells, as `a 1, b 2`.
func list(text string) []api.Entry {
	var l []api.Entry
	for _, part := range strings.Split(text, ", ") {
		member, digits, is := strings.Cut(part, " ")
		if !is {
			continue
		}
		score, err := strconv.ParseInt(digits, 10, 64)
		if err != nil {
			panic(err)
		}
		l = append(l, entry(member, score))
	}
	return l
}

// lists are the lists of texts.
func lists(texts ...string) [][]api.Entry {
	l := make([][]api.Entry, 0, len(texts))
	for _, text := range texts {
		l = append(l, list(text))
	}
	return l
}

// ones are so many weights of 1.
func ones(n int) []int64 { return slices.Repeat([]int64{1}, n) }

func aggs() []int { return []int{api.AggSum, api.AggMin, api.AggMax} }

func wrongAggs() []int {
	return []int{0, 4, -1, -2, -3, 5, 7, 255, 257, 1<<32 + 1, 1<<32 + 2, -1 << 32, math.MinInt, math.MinInt + 1, math.MaxInt}
}

// ahead is the order of the document, written out for itself: bytes are held against each other one by one.
func ahead(a api.Entry, b api.Entry) bool {
	if a.Score != b.Score {
		return a.Score < b.Score
	}
	for at := range min(len(a.Member), len(b.Member)) {
		if a.Member[at] != b.Member[at] {
			return a.Member[at] < b.Member[at]
		}
	}
	return len(a.Member) < len(b.Member)
}

// modelRight holds each entry against all the others, pair by pair.
func modelRight(l []api.Entry) bool {
	for to := range l {
		for from := range to {
			if l[from].Member == l[to].Member || !ahead(l[from], l[to]) {
				return false
			}
		}
	}
	return true
}

// modelSort puts in, one after another, those entries behind which their member doesn't come again.
func modelSort(l []api.Entry) []api.Entry {
	var sorted []api.Entry
	for n, e := range l {
		again := slices.ContainsFunc(l[n+1:], func(other api.Entry) bool { return other.Member == e.Member })
		if again {
			continue
		}
		at := 0
		for at < len(sorted) && ahead(sorted[at], e) {
			at++
		}
		sorted = slices.Insert(sorted, at, e)
	}
	return sorted
}

// modelTold tells one member by the document's words, in numbers without ends: whether it is in all sets, and its score, or that there is none.
func modelTold(member string, l [][]api.Entry, weights []int64, agg int) (bool, int64, bool) {
	all := true
	var sum *big.Int
	for n, set := range l {
		at := slices.IndexFunc(set, func(e api.Entry) bool { return e.Member == member })
		if at < 0 {
			all = false
			continue
		}
		next := new(big.Int).Mul(big.NewInt(set[at].Score), big.NewInt(weights[n]))
		if !next.IsInt64() {
			sum = next
			break
		}
		switch {
		case sum == nil:
			sum = next
		case agg == 1:
			sum = new(big.Int).Add(sum, next)
		case agg == 2 && next.Cmp(sum) < 0, agg == 3 && next.Cmp(sum) > 0:
			sum = next
		}
		if !sum.IsInt64() {
			break
		}
	}
	for _, set := range l {
		all = all && slices.ContainsFunc(set, func(e api.Entry) bool { return e.Member == member })
	}
	if sum == nil || !sum.IsInt64() {
		return all, 0, false
	}
	return all, sum.Int64(), true
}

func modelWrong(l [][]api.Entry) bool {
	return len(l) == 0 || slices.ContainsFunc(l, func(set []api.Entry) bool { return !modelRight(set) })
}

// modelMix is Union, or Inter, if only members count that are in all sets.
func modelMix(inter bool, l [][]api.Entry, weights []int64, agg int) ([]api.Entry, api.Errno) {
	if modelWrong(l) || agg < 1 || agg > 3 || len(weights) != len(l) {
		return nil, 120
	}
	var told []api.Entry
	for _, e := range slices.Concat(l...) {
		all, score, is := modelTold(e.Member, l, weights, agg)
		switch {
		case inter && !all:
			continue
		case !is:
			return nil, 11
		}
		told = append(told, entry(e.Member, score))
	}
	return modelSort(told), 0
}

func modelDiff(l [][]api.Entry) ([]api.Entry, api.Errno) {
	if modelWrong(l) {
		return nil, 120
	}
	others := slices.Concat(l[1:]...)
	return slices.DeleteFunc(slices.Clone(l[0]), func(e api.Entry) bool {
		return slices.ContainsFunc(others, func(other api.Entry) bool { return other.Member == e.Member })
	}), 0
}

// show tells lists with their members quoted, cut off where they are long.
func show(l ...[]api.Entry) string {
	var sets []string
	for _, set := range l {
		var parts []string
		for _, e := range set {
			parts = append(parts, strconv.Quote(e.Member)+" "+strconv.FormatInt(e.Score, 10))
		}
		sets = append(sets, strings.Join(parts, ", "))
	}
	text := "(" + strings.Join(sets, "; ") + ")"
	return text[:min(len(text), 300)]
}

// few are the first of some weights.
func few(weights []int64) []int64 { return weights[:min(len(weights), 10)] }

func checkRight(t *testing.T, l []api.Entry, want bool) {
	t.Helper()
	if right := algebra.Right(l); right != want {
		t.Fatalf("Right of %s is %t", show(l), right)
	}
}

func checkSort(t *testing.T, l []api.Entry, want []api.Entry) {
	t.Helper()
	if sorted := algebra.Sort(l); !slices.Equal(sorted, want) {
		t.Fatalf("Sort of %s is %s, not %s", show(l), show(sorted), show(want))
	}
}

func checkUnion(t *testing.T, l [][]api.Entry, weights []int64, agg int, want []api.Entry, wantErr api.Errno) {
	t.Helper()
	if told, e := algebra.Union(l, weights, agg); !slices.Equal(told, want) || e != wantErr {
		t.Fatalf("Union of %s by %v, %d is %s, %d, not %s, %d", show(l...), few(weights), agg, show(told), e, show(want), wantErr)
	}
}

func checkInter(t *testing.T, l [][]api.Entry, weights []int64, agg int, want []api.Entry, wantErr api.Errno) {
	t.Helper()
	if told, e := algebra.Inter(l, weights, agg); !slices.Equal(told, want) || e != wantErr {
		t.Fatalf("Inter of %s by %v, %d is %s, %d, not %s, %d", show(l...), few(weights), agg, show(told), e, show(want), wantErr)
	}
}

func checkDiff(t *testing.T, l [][]api.Entry, want []api.Entry, wantErr api.Errno) {
	t.Helper()
	if told, e := algebra.Diff(l); !slices.Equal(told, want) || e != wantErr {
		t.Fatalf("Diff of %s is %s, %d, not %s, %d", show(l...), show(told), e, show(want), wantErr)
	}
}

// checkModel holds all three against the models.
func checkModel(t *testing.T, l [][]api.Entry, weights []int64, agg int) {
	t.Helper()
	want, wantErr := modelMix(false, l, weights, agg)
	checkUnion(t, l, weights, agg, want, wantErr)
	want, wantErr = modelMix(true, l, weights, agg)
	checkInter(t, l, weights, agg, want, wantErr)
	want, wantErr = modelDiff(l)
	checkDiff(t, l, want, wantErr)
}

// members are texts in the order of their bytes, as they are written here.
func members() []string {
	return []string{"", "\x00", "\x00\x00", "\x01", " ", "0", "10", "9", "A", "B", "a", "a\x00", "aA", "aa", "ab", "a\xff", "b", "\x7f", "\x80", "é", "世", "\xff", "\xff\x00", "\xff\xff"}
}

// scores are numbers at which signs, products and sums change, and those next to them.
func scores() []int64 {
	return []int64{least, least + 1, -1 << 62, -1<<62 - 1, -1 << 32, -3, -2, -1, 0, 1, 2, 3, 1 << 31, 1 << 32, 1<<62 - 1, 1 << 62, most - 1, most}
}

// sets are lists that are sets'.
func sets() [][]api.Entry {
	l := lists(
		"", "a 1", "a 0", "a -1", "b 1", " 7", "a 1, b 2", "b 1, a 2", "a 1, b 1", "a -1, b 0, c 1", "c -9, b -8, a 7", "a 5, b 5, c 5, d 5", "z -100, m 0, a 100",
	)
	return append(l, []api.Entry{entry("", least), entry("\xff", least), entry("a", most-1), entry("b", most)})
}

// wrongs are lists that are no set's.
func wrongs() [][]api.Entry {
	return lists(
		"b 1, a 1", "a 2, b 1", "a 1, a 1", "a 1, a 2", "a 2, a 1", "a 1, b 2, a 3", "a 1, b 1, a 1", "a 3, b 2, a 1", "a 1, b 2, c 1", "c 1, a 2, b 2, c 3", "a 1, c 2, b 2", "a 0, a -1", "a 1, b 2, c 3, d 4, c 5", "b 0, a 0, c 1", " 1,  1",
	)
}

// P13.1: what is a set's list and what is none.
func TestRight(t *testing.T) {
	checkRight(t, nil, true)
	checkRight(t, []api.Entry{}, true)
	for _, set := range sets() {
		checkRight(t, set, true)
	}
	for _, l := range wrongs() {
		checkRight(t, l, false)
	}
	for _, c := range []struct {
		text string
		want bool
	}{
		{"a 9", true}, {"a -9", true}, {"a 1, b 2, c 3", true}, {"c 1, b 2, a 3", true}, {"a 2, b 2, c 2", true}, {"A 0, a 0", true}, {"B 0, a 0", true}, {"a 0, aa 0", true}, {"10 0, 9 0", true}, {"a -2, a2 -1, a1 0", true},
		{"a 0, A 0", false}, {"a 0, B 0", false}, {"aa 0, a 0", false}, {"9 0, 10 0", false}, {"a -1, b -2", false}, {"a 10, b 9", false}, {"a 1, b 3, c 2", false}, {"b 3, a 3", false}, {"a 1, b 2, b 2", false}, {"a 1, a 1, b 2", false},
	} {
		checkRight(t, list(c.text), c.want)
	}
	ends := []api.Entry{entry("z", least), entry("a", least+1), entry("y", 0), entry("a\x00", most-1), entry("b", most)}
	checkRight(t, ends, true)
	slices.Reverse(ends)
	checkRight(t, ends, false)
}

// P13.1: a member that is there twice, at each pair of places, with the same score and with two.
func TestRightTwice(t *testing.T) {
	l := list("a 0, b 1, c 2, d 3, e 4, f 5")
	for to := range l {
		for from := range to {
			for _, score := range []int64{l[to].Score, l[from].Score} {
				twice := slices.Clone(l)
				twice[to] = entry(l[from].Member, score)
				checkRight(t, twice, false)
			}
		}
	}
}

// P13.1: members of one score stand in the order of their bytes.
func TestRightMembers(t *testing.T) {
	for to, b := range members() {
		for from, a := range members() {
			for _, score := range []int64{least, -1, 0, 1, most} {
				checkRight(t, []api.Entry{entry(a, score), entry(b, score)}, from < to)
			}
			checkRight(t, []api.Entry{entry(a, 0), entry(b, 1)}, from != to)
			checkRight(t, []api.Entry{entry(a, 1), entry(b, 0)}, false)
		}
	}
}

// P13.1: lists are sorted, of each member the last entry alone.
func TestSort(t *testing.T) {
	checkSort(t, nil, nil)
	checkSort(t, []api.Entry{}, nil)
	for _, set := range sets() {
		checkSort(t, set, set)
		turned := slices.Clone(set)
		slices.Reverse(turned)
		checkSort(t, turned, set)
	}
	for _, c := range []struct{ text, want string }{
		{"a 5", "a 5"},
		{"b 9, a 5, b 1", "b 1, a 5"},
		{"a 1, a 1", "a 1"}, {"a 1, a 2", "a 2"}, {"a 2, a 1", "a 1"}, {"a 0, a -1, a 0", "a 0"}, {"a 3, a 1, a 2", "a 2"},
		{"b 1, a 1", "a 1, b 1"}, {"d 0, c 0, b 0, a 0", "a 0, b 0, c 0, d 0"}, {"9 0, 10 0, B 0, a 0, aa 0", "10 0, 9 0, B 0, a 0, aa 0"},
		{"a 1, b 2, a 3", "b 2, a 3"}, {"a 3, b 2, a 1", "a 1, b 2"}, {"a 1, b 2, c 3, b 0, a 9", "b 0, c 3, a 9"}, {"a 1, b 1, c 1, a 1", "a 1, b 1, c 1"},
		{"a 1, b 2, a 2, b 1, a 1, b 2", "a 1, b 2"}, {"x 10, y 9, z -10, w -9", "z -10, w -9, y 9, x 10"}, {" 1, a 0,  -1", " -1, a 0"},
	} {
		checkSort(t, list(c.text), list(c.want))
	}
}

// P13.1: one score for all members, which come in any order.
func TestSortMembers(t *testing.T) {
	r := rand.New(rand.NewPCG(13, 1))
	for _, score := range []int64{least, -1, 0, most} {
		var want []api.Entry
		for _, member := range members() {
			want = append(want, entry(member, score))
		}
		for range 50 {
			l := slices.Clone(want)
			r.Shuffle(len(l), func(a, b int) { l[a], l[b] = l[b], l[a] })
			checkSort(t, l, want)
		}
	}
}

// anyList is a list of some members, some of them more than once.
func anyList(r *rand.Rand, names []string) []api.Entry {
	var l []api.Entry
	for range r.IntN(12) {
		score := int64(r.IntN(7) - 3)
		if r.IntN(4) == 0 {
			score = scores()[r.IntN(len(scores()))]
		}
		l = append(l, entry(names[r.IntN(len(names))], score))
	}
	return l
}

// P13.1: lists of all kinds, held against the model; what is sorted is a set's, and only what is a set's is sorted as it is.
func TestListsAll(t *testing.T) {
	r := rand.New(rand.NewPCG(13, 2))
	for range 20000 {
		l := anyList(r, members()[:1+r.IntN(len(members()))])
		checkRight(t, l, modelRight(l))
		sorted := algebra.Sort(l)
		checkSort(t, l, modelSort(l))
		checkRight(t, sorted, true)
		checkSort(t, sorted, sorted)
		if slices.Equal(sorted, l) != modelRight(l) {
			t.Fatalf("Sort of %s is %s", show(l), show(sorted))
		}
	}
}

// P13.1: all lists of up to five of some entries.
func TestListsShort(t *testing.T) {
	level := [][]api.Entry{nil}
	for range 5 {
		var longer [][]api.Entry
		for _, l := range level {
			for _, e := range list("a 0, a 1, b 0, b 1, c 0, c 2") {
				longer = append(longer, append(slices.Clone(l), e))
			}
		}
		level = longer
		for _, l := range level {
			checkRight(t, l, modelRight(l))
			checkSort(t, l, modelSort(l))
		}
	}
}

// P13.1: no sets, whatever the weights.
func TestNoSets(t *testing.T) {
	for _, l := range [][][]api.Entry{nil, {}} {
		for _, agg := range append(aggs(), wrongAggs()...) {
			for _, weights := range [][]int64{nil, {}, {1}, {1, 2}} {
				checkUnion(t, l, weights, agg, nil, api.ErrAlgebra)
				checkInter(t, l, weights, agg, nil, api.ErrAlgebra)
			}
		}
		checkDiff(t, l, nil, api.ErrAlgebra)
	}
}

// P13.1: lists that are no set's, at each place among others.
func TestWrongSets(t *testing.T) {
	for _, wrong := range wrongs() {
		for size := range 4 {
			for place := range size + 1 {
				l := lists(slices.Repeat([]string{"a 1, b 2"}, size)...)
				l = slices.Insert(l, place, wrong)
				for _, agg := range aggs() {
					checkUnion(t, l, ones(len(l)), agg, nil, api.ErrAlgebra)
					checkInter(t, l, ones(len(l)), agg, nil, api.ErrAlgebra)
				}
				checkDiff(t, l, nil, api.ErrAlgebra)
			}
		}
		// Where there is nothing to tell, too.
		for _, l := range [][][]api.Entry{{nil, wrong}, {wrong, nil}, {nil, nil, wrong}, {wrong, list("z 1")}} {
			checkUnion(t, l, ones(len(l)), api.AggSum, nil, api.ErrAlgebra)
			checkInter(t, l, ones(len(l)), api.AggSum, nil, api.ErrAlgebra)
			checkDiff(t, l, nil, api.ErrAlgebra)
		}
	}
}

// P13.1: ways of putting together that there are not.
func TestWrongAgg(t *testing.T) {
	for _, l := range [][][]api.Entry{lists("a 1"), lists(""), lists("a 1, b 2", "b 3"), lists("a 1", "b 3", "c 4"), lists("", "", "", "")} {
		for _, agg := range wrongAggs() {
			checkUnion(t, l, ones(len(l)), agg, nil, api.ErrAlgebra)
			checkInter(t, l, ones(len(l)), agg, nil, api.ErrAlgebra)
		}
		for _, agg := range aggs() {
			if _, e := algebra.Union(l, ones(len(l)), agg); e != api.OK {
				t.Errorf("Union of %s by %d tells %d", show(l...), agg, e)
			}
			if _, e := algebra.Inter(l, ones(len(l)), agg); e != api.OK {
				t.Errorf("Inter of %s by %d tells %d", show(l...), agg, e)
			}
		}
	}
}

// P13.1: fewer and more weights than sets, and as many.
func TestWeightsCount(t *testing.T) {
	for size := 1; size <= 4; size++ {
		for _, text := range []string{"a 1, b 2", ""} {
			l := lists(slices.Repeat([]string{text}, size)...)
			for count := range 7 {
				for _, agg := range aggs() {
					want, wantErr := modelMix(false, l, ones(count), agg)
					if (wantErr == api.OK) != (count == size) {
						t.Fatalf("the model tells %d of %d weights for %d sets", wantErr, count, size)
					}
					checkUnion(t, l, ones(count), agg, want, wantErr)
					checkInter(t, l, ones(count), agg, want, wantErr)
				}
			}
		}
	}
	checkUnion(t, lists("a 1"), nil, api.AggSum, nil, api.ErrAlgebra)
	checkInter(t, lists("a 1"), nil, api.AggSum, nil, api.ErrAlgebra)
	checkUnion(t, lists("a 1"), []int64{1, 0}, api.AggSum, nil, api.ErrAlgebra)
	checkInter(t, lists("a 1"), []int64{1, 0}, api.AggSum, nil, api.ErrAlgebra)
}

// P13.2: the examples of the document.
func TestExamples(t *testing.T) {
	l := lists("a 1, b 2", "b 3")
	checkUnion(t, l, []int64{1, 10}, api.AggSum, list("a 1, b 32"), api.OK)
	checkInter(t, l, []int64{1, 1}, api.AggMin, list("b 2"), api.OK)
	checkDiff(t, l, list("a 1"), api.OK)
}

// P13.2: one set, times its weight.
func TestOneSet(t *testing.T) {
	for _, agg := range aggs() {
		for _, c := range []struct {
			set    string
			weight int64
			want   string
		}{
			{"a 1, b 2", 1, "a 1, b 2"}, {"a 1, b 2", 3, "a 3, b 6"}, {"a 1, b 2", -1, "b -2, a -1"}, {"b 1, a 2", 0, "a 0, b 0"}, {"z -1, y 0, x 1", 0, "x 0, y 0, z 0"}, {"z -1, y 0, x 1", -5, "x -5, y 0, z 5"}, {"", 7, ""}, {"", least, ""},
			{"a 0", most, "a 0"}, {"a 1", most, "a 9223372036854775807"}, {"a 1", least, "a -9223372036854775808"}, {"a -1", most, "a -9223372036854775807"}, {"a 4611686018427387904", -2, "a -9223372036854775808"},
		} {
			checkUnion(t, lists(c.set), []int64{c.weight}, agg, list(c.want), api.OK)
			checkInter(t, lists(c.set), []int64{c.weight}, agg, list(c.want), api.OK)
		}
	}
	for _, set := range sets() {
		checkDiff(t, [][]api.Entry{set}, set, api.OK)
	}
}

// P13.2: two sets and more, put together in each way, with weights of all signs.
func TestTogether(t *testing.T) {
	for _, c := range []struct {
		sets         []string
		weights      []int64
		agg          int
		union, inter string
	}{
		{[]string{"a 1, b 2", "b 3, c 4"}, []int64{1, 1}, api.AggSum, "a 1, c 4, b 5", "b 5"},
		{[]string{"a 1, b 2", "b 3, c 4"}, []int64{1, 1}, api.AggMin, "a 1, b 2, c 4", "b 2"},
		{[]string{"a 1, b 2", "b 3, c 4"}, []int64{1, 1}, api.AggMax, "a 1, b 3, c 4", "b 3"},
		{[]string{"a 1, b 2", "b 3, c 4"}, []int64{10, 1}, api.AggSum, "c 4, a 10, b 23", "b 23"},
		{[]string{"a 1, b 2", "b 3, c 4"}, []int64{10, 1}, api.AggMin, "b 3, c 4, a 10", "b 3"},
		{[]string{"a 1, b 2", "b 3, c 4"}, []int64{10, 1}, api.AggMax, "c 4, a 10, b 20", "b 20"},
		{[]string{"a 1, b 2", "b 3, c 4"}, []int64{-2, 1}, api.AggSum, "a -2, b -1, c 4", "b -1"},
		{[]string{"a 1, b 2", "b 3, c 4"}, []int64{-2, 1}, api.AggMin, "b -4, a -2, c 4", "b -4"},
		{[]string{"a 1, b 2", "b 3, c 4"}, []int64{-2, 1}, api.AggMax, "a -2, b 3, c 4", "b 3"},
		{[]string{"a 1, b 2", "b 3, c 4"}, []int64{0, 0}, api.AggSum, "a 0, b 0, c 0", "b 0"},
		{[]string{"a 1, b 2", "b 3, c 4"}, []int64{0, 1}, api.AggMin, "a 0, b 0, c 4", "b 0"},
		{[]string{"a 1, b 2", "b -3, c 4"}, []int64{0, 1}, api.AggMax, "a 0, b 0, c 4", "b 0"},
		{[]string{"a 1, b 2, c 3", "c -1, b 0, a 1"}, []int64{1, 1}, api.AggSum, "a 2, b 2, c 2", "a 2, b 2, c 2"},
		{[]string{"a 1, b 2, c 3", "c -1, b 0, a 1"}, []int64{1, 1}, api.AggMin, "c -1, b 0, a 1", "c -1, b 0, a 1"},
		{[]string{"a 1, b 2, c 3", "c -1, b 0, a 1"}, []int64{1, 1}, api.AggMax, "a 1, b 2, c 3", "a 1, b 2, c 3"},
		{[]string{"a 1", "b 1"}, []int64{1, 1}, api.AggSum, "a 1, b 1", ""},
		{[]string{"b 1", "a 1"}, []int64{1, 1}, api.AggMax, "a 1, b 1", ""},
		{[]string{"a 1", ""}, []int64{2, 1}, api.AggSum, "a 2", ""},
		{[]string{"", "a 1"}, []int64{2, 3}, api.AggMin, "a 3", ""},
		{[]string{"", ""}, []int64{2, 3}, api.AggMax, "", ""},
		{[]string{"a 1, b 2", "b 4, c 8", "b 16, a 32"}, []int64{1, 1, 1}, api.AggSum, "c 8, b 22, a 33", "b 22"},
		{[]string{"a 1, b 2", "b 4, c 8", "b 16, a 32"}, []int64{1, 10, 100}, api.AggSum, "c 80, b 1642, a 3201", "b 1642"},
		{[]string{"a 1, b 2", "b 4, c 8", "b 16, a 32"}, []int64{1, 1, -1}, api.AggMin, "a -32, b -16, c 8", "b -16"},
		{[]string{"a 1, b 2", "b 4, c 8", "b 16, a 32"}, []int64{1, 1, -1}, api.AggMax, "a 1, b 4, c 8", "b 4"},
		{[]string{"a 5", "a 3", "a 4"}, []int64{1, 1, 1}, api.AggMin, "a 3", "a 3"},
		{[]string{"a 3", "a 5", "a 4"}, []int64{1, 1, 1}, api.AggMax, "a 5", "a 5"},
		{[]string{"a 3", "a 4", "a 5"}, []int64{1, 1, 1}, api.AggMin, "a 3", "a 3"},
		{[]string{"a 3", "a 4", "a 5"}, []int64{1, 1, 1}, api.AggMax, "a 5", "a 5"},
		{[]string{"a 1", "a 1", "a 1", "a 1"}, []int64{1, -2, 3, -4}, api.AggSum, "a -2", "a -2"},
		{[]string{"a 1, b 1", "a 1, b 1", "", "a 1"}, []int64{1, 1, 1, 1}, api.AggSum, "b 2, a 3", ""},
		{[]string{" 1, a 2", " 3"}, []int64{1, 1}, api.AggSum, "a 2,  4", " 4"},
	} {
		checkUnion(t, lists(c.sets...), c.weights, c.agg, list(c.union), api.OK)
		checkInter(t, lists(c.sets...), c.weights, c.agg, list(c.inter), api.OK)
	}
}

// P13.2: the first set without the others' members, whatever their scores.
func TestDiff(t *testing.T) {
	for _, c := range []struct {
		sets []string
		want string
	}{
		{[]string{"a 1, b 2"}, "a 1, b 2"}, {[]string{""}, ""}, {[]string{"", "a 1"}, ""}, {[]string{"a 1", ""}, "a 1"}, {[]string{"a 1", "a 1"}, ""}, {[]string{"a 1", "a 2"}, ""}, {[]string{"a 1", "b 1"}, "a 1"}, {[]string{"", ""}, ""},
		{[]string{"a 1, b 2, c 3", "b 9"}, "a 1, c 3"}, {[]string{"a 1, b 2, c 3", "b 9", "c -9"}, "a 1"}, {[]string{"a 1, b 2, c 3", "c 0", "c 1", "c 3"}, "a 1, b 2"}, {[]string{"a 1, b 2, c 3", "c 0, b 1, a 2"}, ""}, {[]string{"a 1, b 2, c 3", "d 0", "", "e 0"}, "a 1, b 2, c 3"},
		{[]string{"c -1, a 0, b 0, d 7", "a 3", "d 4, z 5"}, "c -1, b 0"}, {[]string{"a 1", "b 1", "a 1"}, ""}, {[]string{" 1, a 2", " 3"}, "a 2"}, {[]string{"a 1, aa 1", "A 1"}, "a 1, aa 1"},
	} {
		checkDiff(t, lists(c.sets...), list(c.want), api.OK)
	}
	ends := []api.Entry{entry("a", least), entry("b", least), entry("c", most), entry("d", most)}
	checkDiff(t, [][]api.Entry{ends, list("a 0, d 0")}, []api.Entry{entry("b", least), entry("c", most)}, api.OK)
}

// P13.2: products up to where the numbers end, and past it.
func TestProducts(t *testing.T) {
	for _, score := range scores() {
		for _, weight := range scores() {
			product := new(big.Int).Mul(big.NewInt(score), big.NewInt(weight))
			var want []api.Entry
			wantErr := api.ErrOverflow
			if product.IsInt64() {
				want, wantErr = []api.Entry{entry("a", product.Int64())}, api.OK
			}
			l := [][]api.Entry{{entry("a", score)}}
			for _, agg := range aggs() {
				checkUnion(t, l, []int64{weight}, agg, want, wantErr)
				checkInter(t, l, []int64{weight}, agg, want, wantErr)
			}
			// Nothing is multiplied by Diff.
			checkDiff(t, l, l[0], api.OK)
		}
	}
}

// P13.2: a product that is none is told of each set, and of each member, though by AggMin and AggMax another score would be taken.
func TestProductsAnywhere(t *testing.T) {
	for size := 1; size <= 4; size++ {
		for place := range size {
			weights := ones(size)
			weights[place] = 2
			for _, agg := range aggs() {
				for _, big := range []string{"a 0, b 1, c 4611686018427387904", "c -4611686018427387905, a 0, b 1", "b -4611686018427387905, a 0, c 1", "b 0, c 0, a 4611686018427387904"} {
					l := lists(slices.Repeat([]string{"a 1, b 1, c 1"}, size)...)
					l[place] = list(big)
					checkUnion(t, l, weights, agg, nil, api.ErrOverflow)
					checkInter(t, l, weights, agg, nil, api.ErrOverflow)
				}
			}
		}
	}
}

// P13.2: sums up to where the numbers end, and past it.
func TestSums(t *testing.T) {
	for _, a := range scores() {
		for _, b := range scores() {
			l := [][]api.Entry{{entry("m", a)}, {entry("m", b)}}
			sum := new(big.Int).Add(big.NewInt(a), big.NewInt(b))
			var want []api.Entry
			wantErr := api.ErrOverflow
			if sum.IsInt64() {
				want, wantErr = []api.Entry{entry("m", sum.Int64())}, api.OK
			}
			checkUnion(t, l, ones(2), api.AggSum, want, wantErr)
			checkInter(t, l, ones(2), api.AggSum, want, wantErr)
			// Nothing is summed by the others.
			checkUnion(t, l, ones(2), api.AggMin, []api.Entry{entry("m", min(a, b))}, api.OK)
			checkInter(t, l, ones(2), api.AggMin, []api.Entry{entry("m", min(a, b))}, api.OK)
			checkUnion(t, l, ones(2), api.AggMax, []api.Entry{entry("m", max(a, b))}, api.OK)
			checkInter(t, l, ones(2), api.AggMax, []api.Entry{entry("m", max(a, b))}, api.OK)
		}
	}
}

// P13.2: sums over three sets are put together from the first set on: each one on the way is to be a number.
func TestSumsInOrder(t *testing.T) {
	for _, c := range []struct {
		scores []int64
		want   int64
		err    api.Errno
	}{
		{[]int64{most, 1, -1}, 0, api.ErrOverflow},
		{[]int64{most, -1, 1}, most, api.OK},
		{[]int64{-1, most, 1}, most, api.OK},
		{[]int64{1, -1, most}, most, api.OK},
		{[]int64{-1, 1, most}, most, api.OK},
		{[]int64{1, most, -1}, 0, api.ErrOverflow},
		{[]int64{least, -1, 1}, 0, api.ErrOverflow},
		{[]int64{least, 1, -1}, least, api.OK},
		{[]int64{-1, least, 1}, 0, api.ErrOverflow},
		{[]int64{-1, 1, least}, least, api.OK},
		{[]int64{most, least, 1}, 0, api.OK},
		{[]int64{1, most, least}, 0, api.ErrOverflow},
		{[]int64{least, most, 1}, 0, api.OK},
		{[]int64{most, 0, 1}, 0, api.ErrOverflow},
		{[]int64{0, 0, 0}, 0, api.OK},
		{[]int64{1 << 62, 1 << 62, -1 << 62}, 0, api.ErrOverflow},
		{[]int64{1 << 62, -1 << 62, 1 << 62}, 1 << 62, api.OK},
		{[]int64{-1 << 62, -1 << 62, -1}, 0, api.ErrOverflow},
		{[]int64{-1 << 62, -1 << 62, 0}, least, api.OK},
		{[]int64{most, most, least, least}, 0, api.ErrOverflow},
		{[]int64{most, least, most, least}, -2, api.OK},
	} {
		var l [][]api.Entry
		for _, score := range c.scores {
			l = append(l, []api.Entry{entry("m", score)})
		}
		var want []api.Entry
		if c.err == api.OK {
			want = []api.Entry{entry("m", c.want)}
		}
		checkUnion(t, l, ones(len(l)), api.AggSum, want, c.err)
		checkInter(t, l, ones(len(l)), api.AggSum, want, c.err)
		// Sets without the member between them make no difference to the union, and leave nothing to Inter.
		wide := [][]api.Entry{nil}
		for _, set := range l {
			wide = append(wide, set, nil)
		}
		checkUnion(t, wide, ones(len(wide)), api.AggSum, want, c.err)
		checkInter(t, wide, ones(len(wide)), api.AggSum, nil, api.OK)
	}
	// A sum of two products that are numbers, and is none.
	checkUnion(t, lists("m 4611686018427387904", "m -4611686018427387904"), []int64{1, -1}, api.AggSum, nil, api.ErrOverflow)
	checkUnion(t, lists("m 4611686018427387904", "m -4611686018427387904"), []int64{-1, 1}, api.AggSum, []api.Entry{entry("m", least)}, api.OK)
}

// P13.2: what is too much of a member that is not in all sets is no error of Inter, but one of Union.
func TestTooMuchUntold(t *testing.T) {
	huge := []api.Entry{entry("b", 1), entry("x", 1<<62)}
	for _, agg := range aggs() {
		for _, c := range []struct {
			sets    [][]api.Entry
			weights []int64
			want    string
		}{
			{[][]api.Entry{huge, list("b 1")}, []int64{2, 1}, "b"},
			{[][]api.Entry{list("b 1"), huge}, []int64{1, 2}, "b"},
			{[][]api.Entry{huge, nil}, []int64{2, 1}, ""},
			{[][]api.Entry{nil, huge}, []int64{1, -3}, ""},
			{[][]api.Entry{huge, huge, list("b 1")}, []int64{2, 2, 1}, "b"},
			{[][]api.Entry{huge, list("b 1"), huge}, []int64{1, 1, 2}, "b"},
			{[][]api.Entry{list("b 1"), huge, huge}, []int64{1, 2, 1}, "b"},
			{[][]api.Entry{huge, huge, nil}, []int64{2, 2, 2}, ""},
		} {
			checkUnion(t, c.sets, c.weights, agg, nil, api.ErrOverflow)
			l, e := algebra.Inter(c.sets, c.weights, agg)
			if e != api.OK || len(l) > 1 || (len(l) == 1) != (c.want != "") || len(l) == 1 && l[0].Member != c.want {
				t.Errorf("Inter of %s by %v, %d is %s, %d", show(c.sets...), few(c.weights), agg, show(l), e)
			}
		}
	}
	// A sum that is none, likewise.
	sets := [][]api.Entry{huge, huge, list("b 5")}
	checkUnion(t, sets, ones(3), api.AggSum, nil, api.ErrOverflow)
	checkInter(t, sets, ones(3), api.AggSum, list("b 7"), api.OK)
	checkUnion(t, sets, ones(3), api.AggMin, []api.Entry{entry("b", 1), entry("x", 1<<62)}, api.OK)
	checkInter(t, append(sets, huge), []int64{1, 1, 1, 2}, api.AggSum, list("b 9"), api.OK)
}

// P13.1: what is no set's, no way of putting together, and a wrong count of weights are told ahead of products and sums that are none.
func TestErrorsOrder(t *testing.T) {
	huge := []api.Entry{entry("x", 1<<62)}
	for _, wrong := range wrongs() {
		for _, l := range [][][]api.Entry{{huge, wrong}, {wrong, huge}, {huge, huge, wrong}, {huge, wrong, huge}} {
			for _, agg := range append(aggs(), wrongAggs()...) {
				weights := slices.Repeat([]int64{2}, len(l))
				checkUnion(t, l, weights, agg, nil, api.ErrAlgebra)
				checkInter(t, l, weights, agg, nil, api.ErrAlgebra)
			}
		}
	}
	checkUnion(t, [][]api.Entry{huge, huge}, []int64{2, 2}, 4, nil, api.ErrAlgebra)
	checkInter(t, [][]api.Entry{huge, huge}, []int64{2, 2}, 0, nil, api.ErrAlgebra)
	for _, weights := range [][]int64{{2}, {2, 2, 2}, nil} {
		checkUnion(t, [][]api.Entry{huge, huge}, weights, api.AggSum, nil, api.ErrAlgebra)
		checkInter(t, [][]api.Entry{huge, huge}, weights, api.AggSum, nil, api.ErrAlgebra)
	}
	checkUnion(t, [][]api.Entry{huge, huge}, []int64{2, 2}, api.AggSum, nil, api.ErrOverflow)
	checkInter(t, [][]api.Entry{huge, huge}, []int64{2, 2}, api.AggSum, nil, api.ErrOverflow)
	// A list whose own entry is too much, and which is no set's.
	twice := []api.Entry{entry("x", 1<<62), entry("x", 1<<62)}
	checkUnion(t, [][]api.Entry{twice}, []int64{2}, api.AggSum, nil, api.ErrAlgebra)
	checkInter(t, [][]api.Entry{twice}, []int64{2}, api.AggSum, nil, api.ErrAlgebra)
}

// P13.2: each pair of sets, and some threes, in each way.
func TestPairs(t *testing.T) {
	for _, a := range sets() {
		for _, b := range sets() {
			for _, agg := range aggs() {
				for _, weights := range [][]int64{{1, 1}, {2, -3}, {0, 1}, {-1, -1}, {most, 1}} {
					checkModel(t, [][]api.Entry{a, b}, weights, agg)
				}
			}
			for _, c := range sets() {
				checkModel(t, [][]api.Entry{a, b, c}, []int64{1, -1, 2}, api.AggSum)
				checkModel(t, [][]api.Entry{a, b, c}, []int64{1, -1, 2}, api.AggMin)
				checkModel(t, [][]api.Entry{a, b, c}, []int64{1, -1, 2}, api.AggMax)
			}
		}
	}
}

// anyCall are some lists, mostly sets', with weights and a way of putting together.
func anyCall(r *rand.Rand) ([][]api.Entry, []int64, int) {
	names := members()[:1+r.IntN(len(members()))]
	l := make([][]api.Entry, r.IntN(5))
	for n := range l {
		l[n] = modelSort(anyList(r, names))
		if r.IntN(40) == 0 {
			l[n] = anyList(r, names)
		}
	}
	weights := make([]int64, len(l))
	for n := range weights {
		weights[n] = int64(r.IntN(7) - 3)
		if r.IntN(8) == 0 {
			weights[n] = scores()[r.IntN(len(scores()))]
		}
	}
	if r.IntN(40) == 0 {
		weights = append(weights, 1)[r.IntN(2):]
	}
	return l, weights, 1 + r.IntN(3) + r.IntN(40)/39
}

// P13.1, P13.2: calls of all kinds, held against the models.
func TestAnyCalls(t *testing.T) {
	r := rand.New(rand.NewPCG(13, 3))
	told := map[api.Errno]int{}
	for range 20000 {
		l, weights, agg := anyCall(r)
		checkModel(t, l, weights, agg)
		_, e := algebra.Union(l, weights, agg)
		told[e]++
	}
	for _, e := range []api.Errno{api.OK, api.ErrAlgebra, api.ErrOverflow} {
		if told[e] < 1000 {
			t.Errorf("only %d calls tell %d", told[e], e)
		}
	}
}

// orders are all orders of the numbers below n.
func orders(n int) [][]int {
	l := [][]int{nil}
	for k := range n {
		var longer [][]int
		for _, order := range l {
			for at := range k + 1 {
				longer = append(longer, slices.Insert(slices.Clone(order), at, k))
			}
		}
		l = longer
	}
	return l
}

// P13.3: by AggMin and AggMax it makes no difference in which order the sets stand, with their weights.
func TestSetsOrder(t *testing.T) {
	r := rand.New(rand.NewPCG(13, 4))
	for range 1000 {
		l, weights, _ := anyCall(r)
		if len(l) != len(weights) {
			continue
		}
		for _, agg := range []int{api.AggMin, api.AggMax} {
			union, unionErr := algebra.Union(l, weights, agg)
			inter, interErr := algebra.Inter(l, weights, agg)
			for _, order := range orders(len(l)) {
				var turned [][]api.Entry
				var turnedWeights []int64
				for _, place := range order {
					turned, turnedWeights = append(turned, l[place]), append(turnedWeights, weights[place])
				}
				checkUnion(t, turned, turnedWeights, agg, union, unionErr)
				checkInter(t, turned, turnedWeights, agg, inter, interErr)
			}
		}
	}
}

func names(l []api.Entry) []string {
	var s []string
	for _, e := range l {
		s = append(s, e.Member)
	}
	slices.Sort(s)
	return s
}

// P13.3: what is in the union of two sets, and not in their intersection, is in one of their differences, and only that.
func TestDifferences(t *testing.T) {
	check := func(a []api.Entry, b []api.Entry) {
		t.Helper()
		union, unionErr := algebra.Union([][]api.Entry{a, b}, ones(2), api.AggMin)
		inter, interErr := algebra.Inter([][]api.Entry{a, b}, ones(2), api.AggMin)
		first, firstErr := algebra.Diff([][]api.Entry{a, b})
		second, secondErr := algebra.Diff([][]api.Entry{b, a})
		if unionErr != 0 || interErr != 0 || firstErr != 0 || secondErr != 0 {
			t.Fatalf("%s and %s tell %d, %d, %d, %d", show(a), show(b), unionErr, interErr, firstErr, secondErr)
		}
		all, both := names(union), names(inter)
		all = slices.DeleteFunc(all, func(s string) bool { return slices.Contains(both, s) })
		one := names(slices.Concat(first, second))
		if !slices.Equal(all, one) {
			t.Fatalf("of %s and %s %q are in one set, and %q in one difference", show(a), show(b), all, one)
		}
		// Their scores are those that they have.
		for _, e := range slices.Concat(first, second) {
			if !slices.Contains(union, e) {
				t.Fatalf("of %s and %s %q is in a difference, and not in the union with that score", show(a), show(b), e.Member)
			}
		}
	}
	for _, a := range sets() {
		for _, b := range sets() {
			check(a, b)
		}
	}
	r := rand.New(rand.NewPCG(13, 5))
	for range 3000 {
		check(modelSort(anyList(r, members())), modelSort(anyList(r, members()[5:])))
	}
}

// What is answered without an error is a set's itself.
func TestAnswersAreSets(t *testing.T) {
	r := rand.New(rand.NewPCG(13, 6))
	for range 3000 {
		l, weights, agg := anyCall(r)
		union, _ := algebra.Union(l, weights, agg)
		inter, _ := algebra.Inter(l, weights, agg)
		rest, _ := algebra.Diff(l)
		for _, told := range [][]api.Entry{union, inter, rest} {
			checkRight(t, told, true)
			checkSort(t, told, told)
		}
	}
}

// R3: no entries and no weights are told by nil and by an empty list alike.
func TestNilAndEmpty(t *testing.T) {
	for _, none := range [][]api.Entry{nil, {}} {
		checkRight(t, none, true)
		checkSort(t, none, nil)
		for _, agg := range aggs() {
			checkUnion(t, [][]api.Entry{none}, ones(1), agg, nil, api.OK)
			checkInter(t, [][]api.Entry{none}, ones(1), agg, nil, api.OK)
			checkUnion(t, [][]api.Entry{none, list("a 1")}, ones(2), agg, list("a 1"), api.OK)
			checkInter(t, [][]api.Entry{none, list("a 1")}, ones(2), agg, nil, api.OK)
		}
		checkDiff(t, [][]api.Entry{none}, nil, api.OK)
		checkDiff(t, [][]api.Entry{none, none}, nil, api.OK)
		checkDiff(t, [][]api.Entry{list("a 1"), none}, list("a 1"), api.OK)
	}
}

// roomy is a copy of a list with spare room behind it that holds something.
func roomy[T any](l []T, spare ...T) []T {
	return append(slices.Clone(l), spare...)[:len(l)]
}

// whole is a list with its spare room.
func whole[T any](l []T) []T { return slices.Clone(l[:cap(l)]) }

// R3: sets, weights and lists, and what stands in their spare room, stay as they are.
func TestArgumentsStay(t *testing.T) {
	spare := list("spare 1, room 0")
	for _, l := range append(wrongs(), sets()...) {
		room := roomy(l, spare...)
		want := whole(room)
		algebra.Right(room)
		algebra.Sort(room)
		if !slices.Equal(whole(room), want) {
			t.Errorf("behind Right and Sort of %s there is %s", show(want), show(whole(room)))
		}
		// What stands in the spare room is not read.
		checkRight(t, room, modelRight(l))
		checkSort(t, room, modelSort(l))
	}
	r := rand.New(rand.NewPCG(13, 7))
	for range 2000 {
		l, weights, agg := anyCall(r)
		var sets [][]api.Entry
		for _, set := range l {
			sets = append(sets, roomy(set, spare...))
		}
		sets, weights = roomy(sets, spare, nil), roomy(weights, 7, 8, 9)
		wantWeights := whole(weights)
		var want [][]api.Entry
		for _, set := range whole(sets) {
			want = append(want, whole(set))
		}
		checkModel(t, sets, weights, agg)
		for n, set := range whole(sets) {
			if !slices.Equal(whole(set), want[n]) {
				t.Fatalf("a set that was %s is %s", show(want[n]), show(whole(set)))
			}
		}
		if !slices.Equal(whole(weights), wantWeights) {
			t.Fatalf("weights that were %v are %v", wantWeights, whole(weights))
		}
	}
}

// spoil writes into an answer, into its spare room, and behind it.
func spoil(l []api.Entry) {
	l = l[:cap(l)]
	for n := range l {
		l[n] = entry("changed", 99)
	}
	_ = append(l, entry("more", 1))
}

// R3: what is answered may be changed, and neither arguments nor other answers tell it.
func TestAnswersAreNew(t *testing.T) {
	r := rand.New(rand.NewPCG(13, 8))
	for range 2000 {
		l, weights, agg := anyCall(r)
		var kept [][]api.Entry
		for _, set := range l {
			kept = append(kept, slices.Clone(set))
		}
		calls := []func() []api.Entry{
			func() []api.Entry { told, _ := algebra.Union(l, weights, agg); return told },
			func() []api.Entry { told, _ := algebra.Inter(l, weights, agg); return told },
			func() []api.Entry { told, _ := algebra.Diff(l); return told },
		}
		for _, set := range l {
			calls = append(calls, func() []api.Entry { return algebra.Sort(set) })
		}
		for n, call := range calls {
			first, second := call(), call()
			want := slices.Clone(first)
			spoil(first)
			if !slices.Equal(second, want) || !slices.Equal(call(), want) {
				t.Fatalf("call %d of %s is %s, not %s, once its answer is changed", n, show(l...), show(call()), show(want))
			}
		}
		for n, set := range l {
			if !slices.Equal(set, kept[n]) {
				t.Fatalf("a set that was %s is %s, once answers are changed", show(kept[n]), show(set))
			}
		}
	}
}

// R3: lists that are handed in may be changed behind the call, and what was answered stays.
func TestArgumentsAreNotKept(t *testing.T) {
	l, weights := lists("a 1, b 2", "b 3, c 4"), []int64{1, 10}
	union, _ := algebra.Union(l, weights, api.AggSum)
	inter, _ := algebra.Inter(l, weights, api.AggSum)
	rest, _ := algebra.Diff(l)
	alone, _ := algebra.Diff(l[:1])
	sorted := algebra.Sort(l[0])
	for _, set := range l {
		spoil(set)
	}
	weights[0], l[1] = 7, nil
	for _, c := range []struct {
		told []api.Entry
		want string
	}{{union, "a 1, b 32, c 40"}, {inter, "b 32"}, {rest, "a 1"}, {alone, "a 1, b 2"}, {sorted, "a 1, b 2"}} {
		if !slices.Equal(c.told, list(c.want)) {
			t.Errorf("what was %s is %s, once the sets are changed", c.want, show(c.told))
		}
	}
}

// One list may stand at more than one place.
func TestOneListTwice(t *testing.T) {
	set := list("a 1, b 2, c 3")
	l := [][]api.Entry{set, set, set}
	checkUnion(t, l, []int64{1, 1, 1}, api.AggSum, list("a 3, b 6, c 9"), api.OK)
	checkInter(t, l, []int64{1, -1, 2}, api.AggMin, list("c -3, b -2, a -1"), api.OK)
	checkDiff(t, l, nil, api.OK)
	checkDiff(t, [][]api.Entry{set, set[:2]}, list("c 3"), api.OK)
	checkDiff(t, [][]api.Entry{set[:2], set[2:]}, list("a 1, b 2"), api.OK)
}

// R2, R4: the same call tells the same, whatever was called ahead of it.
func TestNothingIsKept(t *testing.T) {
	l := lists("a 1, b 2", "b 3")
	huge := [][]api.Entry{{entry("a", most)}, {entry("a", most)}}
	for range 3 {
		checkUnion(t, l, []int64{1, 10}, api.AggSum, list("a 1, b 32"), api.OK)
		checkUnion(t, huge, ones(2), api.AggSum, nil, api.ErrOverflow)
		checkInter(t, huge, []int64{2, 0}, api.AggMax, nil, api.ErrOverflow)
		checkInter(t, l, ones(2), api.AggMin, list("b 2"), api.OK)
		checkDiff(t, wrongs(), nil, api.ErrAlgebra)
		checkDiff(t, l, list("a 1"), api.OK)
		checkSort(t, list("b 9, a 5, b 1"), list("b 1, a 5"))
	}
}

// R1: great sets, and many of them, are put together too.
func TestGreat(t *testing.T) {
	const size = 100000
	var even, all, want []api.Entry
	for n := range size {
		member := "m" + strconv.Itoa(n)
		all = append(all, entry(member, int64(n)))
		if n%2 == 0 {
			even = append(even, entry(member, -2))
			want = append(want, entry(member, int64(n)-2))
		}
	}
	even = algebra.Sort(even)
	checkRight(t, all, true)
	checkRight(t, even, true)
	if inter, e := algebra.Inter([][]api.Entry{all, even}, ones(2), api.AggSum); !slices.Equal(inter, want) || e != api.OK {
		t.Errorf("Inter tells %d entries, %d", len(inter), e)
	}
	if union, e := algebra.Union([][]api.Entry{all, even}, []int64{1, 0}, api.AggMax); !slices.Equal(union, all) || e != api.OK {
		t.Errorf("Union tells %d entries, %d", len(union), e)
	}
	if rest, e := algebra.Diff([][]api.Entry{all, even}); len(rest) != size/2 || rest[0] != all[1] || e != api.OK {
		t.Errorf("Diff tells %d entries, %d", len(rest), e)
	}
	var single [][]api.Entry
	for n := range all {
		single = append(single, all[n:n+1])
	}
	if union, e := algebra.Union(single, ones(size), api.AggSum); !slices.Equal(union, all) || e != api.OK {
		t.Errorf("Union of many sets tells %d entries, %d", len(union), e)
	}
	checkInter(t, single, ones(size), api.AggSum, nil, api.OK)
	if rest, e := algebra.Diff(single); !slices.Equal(rest, all[:1]) || e != api.OK {
		t.Errorf("Diff of many sets tells %d entries, %d", len(rest), e)
	}
	same := slices.Repeat([][]api.Entry{list("a 3")}, size)
	checkUnion(t, same, ones(size), api.AggSum, []api.Entry{entry("a", 3*size)}, api.OK)
	checkInter(t, same, ones(size), api.AggSum, []api.Entry{entry("a", 3*size)}, api.OK)
}
