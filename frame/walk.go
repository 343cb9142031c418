package frame

import (
	"iter"

	"palio/api"
)

// deepest is how deep lists may be within each other: what is deeper is taken to be within itself.
const deepest = 1 << 16

// all are the replies, each ahead of those within it, and beside each how many others it is within.
func all(l ...api.Reply) iter.Seq2[int, api.Reply] {
	return func(yield func(int, api.Reply) bool) {
		through(yield, 0, l...)
	}
}

// through hands on yield itself, so that what lies deep costs no more than what doesn't.
func through(yield func(int, api.Reply) bool, high int, l ...api.Reply) bool {
	for _, r := range l {
		if !yield(high, r) || !through(yield, high+1, r.L...) {
			return false
		}
	}
	return true
}

// copies share no list with the replies, nor with each other.
func copies(l ...api.Reply) []api.Reply {
	var list []api.Reply
	for _, r := range l {
		r.L = copies(r.L...)
		list = append(list, r)
	}
	return list
}
