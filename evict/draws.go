package evict

import (
	"iter"

	"palio/api"
)

// endless goes through draws, and through 0 for ever behind the last one.
func endless(draws ...uint32) iter.Seq[uint32] {
	return func(yield func(uint32) bool) {
		for _, draw := range draws {
			if !yield(draw) {
				return
			}
		}
		for yield(0) {
		}
	}
}

// fives goes through the draws of one choosing after another, for ever; behind the last draw they are none. Each has no room behind its draws, where the next one's stand.
func fives(draws ...uint32) iter.Seq[[]uint32] {
	return func(yield func([]uint32) bool) {
		rest := draws
		for {
			n := min(len(rest), api.Samples)
			if !yield(rest[:n:n]) {
				return
			}
			rest = rest[n:]
		}
	}
}
