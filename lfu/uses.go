package lfu

import (
	"iter"
	"slices"

	"palio/api"
)

// The steps of a count: down with each minute, none, and up with a use.
const (
	fall = iota - 1
	stay
	rise
)

// within is the right use that is nearest to one; a right one's nearest is itself.
func within(u api.Use) api.Use {
	return api.Use{Count: min(max(u.Count, 0), api.MaxCount), At: max(u.At, 0)}
}

// known tells whether all uses are right, and have begun at a minute: what they were ahead of their own minutes is kept nowhere.
func known(now int, l ...api.Use) bool {
	return !slices.ContainsFunc(l, func(u api.Use) bool { return !Right(u) || now < u.At })
}

// later is a known use as it is at a minute.
func later(u api.Use, now int) api.Use {
	return api.Use{Count: max(u.Count+fall*(now-u.At), 0), At: now}
}

// used is what a use becomes by a draw.
func used(u api.Use, draw uint32) api.Use {
	u.Count += step(u.Count, draw)
	return u
}

// step is the way that a count goes with a draw.
func step(count int, draw uint32) int {
	if count == api.MaxCount {
		goto none
	}
	if draw%oneOf(count) == 0 {
		return rise
	}
none:
	return stay
}

// oneOf tells of how many draws one makes a count rise: of a count up to a new one's each does, of those above it ever fewer.
func oneOf(count int) uint32 {
	return uint32(api.Steep*max(count-api.FirstCount, 0) + 1)
}

// counts goes through known uses' counts at a minute.
func counts(now int, l ...api.Use) iter.Seq2[int, int] {
	return func(yield func(int, int) bool) {
		for at, u := range l {
			if !yield(at, later(u, now).Count) {
				return
			}
		}
	}
}

// least is the place of the first of the least counts; nothing behind a count of 0 is less.
func least(now int, l ...api.Use) int {
	place, fewest := 0, api.MaxCount
looking:
	for at, count := range counts(now, l...) {
		switch {
		case count == 0:
			place = at
			break looking
		case count < fewest:
			place, fewest = at, count
		}
	}
	return place
}
