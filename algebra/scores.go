package algebra

import (
	"slices"

	"palio/api"
	"palio/bound"
	"palio/ints"
)

// scores are members with a score each, in no order.
type scores map[string]int64

// scoresOf gives each member the score of its last entry.
func scoresOf(entries ...api.Entry) scores {
	s := scores{}
	for _, e := range entries {
		s[e.Member] = e.Score
	}
	return s
}

// put gives an entry's member its score, times a weight, put together with the one that it has, if it has one.
func (s scores) put(e api.Entry, weight int64, join func(a int64, b int64) (int64, api.Errno)) error {
	score, fault := ints.Mul(e.Score, weight)
	if old, is := s[e.Member]; is && fault == api.OK {
		score, fault = join(old, score)
	}
	if fault != api.OK {
		return errMuch
	}
	s[e.Member] = score
	return nil
}

// entries are sorted, as the map is gone through in any order; no two are equal, so there is one way to sort them.
func (s scores) entries() []api.Entry {
	var l []api.Entry
	for member, score := range s {
		l = append(l, api.Entry{Member: member, Score: score})
	}
	slices.SortFunc(l, order)
	return l
}

func order(a api.Entry, b api.Entry) int {
	switch {
	case bound.Less(a, b):
		return -1
	case bound.Less(b, a):
		return 1
	}
	return 0
}
