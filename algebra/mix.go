package algebra

import (
	"errors"
	"iter"

	"palio/api"
	"palio/ints"
)

var (
	errSets = errors.New("no sets, or none that can be put together so")
	errMuch = errors.New("a product or a sum that is no number")
)

// right tells whether there are sets, and nothing but sets.
func right(sets ...[]api.Entry) bool {
	for _, set := range sets {
		if !Right(set) {
			return false
		}
	}
	return len(sets) > 0
}

// through goes through the entries of sets, each with its set's place, the first set's ahead.
func through(sets ...[]api.Entry) iter.Seq2[int, api.Entry] {
	return func(yield func(int, api.Entry) bool) {
		for place, set := range sets {
			for _, e := range set {
				if !yield(place, e) {
					return
				}
			}
		}
	}
}

// shared goes through those entries whose members are in at least so many of the sets.
func shared(least int, sets ...[]api.Entry) iter.Seq2[int, api.Entry] {
	counts := map[string]int{}
	for _, e := range through(sets...) {
		counts[e.Member]++
	}
	return func(yield func(int, api.Entry) bool) {
		for place, e := range through(sets...) {
			if counts[e.Member] >= least && !yield(place, e) {
				return
			}
		}
	}
}

// joining is how two scores are put together, or nil, if they can't be so.
func joining(agg int) func(a int64, b int64) (int64, api.Errno) {
	switch agg {
	case api.AggSum:
		return ints.Add
	case api.AggMin:
		return func(a int64, b int64) (int64, api.Errno) { return min(a, b), api.OK }
	case api.AggMax:
		return func(a int64, b int64) (int64, api.Errno) { return max(a, b), api.OK }
	}
	return nil
}

// mixed puts the scores together, times their sets' weights, of the members that are in at least so many of the sets: what is too much of other members is no fault.
func mixed(weights []int64, agg int, least int, sets ...[]api.Entry) (scores, error) {
	join := joining(agg)
	if join == nil || len(weights) != len(sets) || !right(sets...) {
		return nil, errSets
	}
	mix := scores{}
	var err error
mixing:
	for place, e := range shared(least, sets...) {
		if err = mix.put(e, weights[place], join); err != nil {
			break mixing
		}
	}
	return mix, err
}

// rest is what is left of the first set, once the members of the others are taken out.
func rest(sets ...[]api.Entry) (scores, error) {
	if !right(sets...) {
		return nil, errSets
	}
	left := scoresOf(sets[0]...)
	for _, e := range through(sets[1:]...) {
		delete(left, e.Member)
	}
	return left, nil
}
