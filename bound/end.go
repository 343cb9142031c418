package bound

import (
	"cmp"

	"palio/api"
)

// end is an end of a range of entries, by their scores or by their members.
type end interface {
	// side is where an entry stands: below the end (-1), at it (0), above it (1).
	side(e api.Entry) int
}

// beyond is an end below all, if it is less than 0, else above all.
type beyond int

type atScore int64

type atMember string

// leftOut is an end at which nothing is in the range.
type leftOut struct{ end }

func (b beyond) side(api.Entry) int { return cmp.Compare(0, b) }

func (a atScore) side(e api.Entry) int { return cmp.Compare(e.Score, int64(a)) }

func (a atMember) side(e api.Entry) int { return cmp.Compare(e.Member, string(a)) }

func scoreEnd(b api.Bound) end { return endAt(atScore(b.N), b.Out, b.Inf) }

func memberEnd(e api.Edge) end { return endAt(atMember(e.S), e.Out, e.Inf) }

// endAt is the end at a place, unless it is left out there, or is beyond all, where the place counts nothing.
func endAt(place end, out bool, inf int) end {
	switch {
	case inf != 0:
		return beyond(inf)
	case out:
		return leftOut{place}
	}
	return place
}

// lets tells whether an entry is not on the wrong side of an end; inner is the right side.
func lets(limit end, e api.Entry, inner int) bool {
	side := limit.side(e)
	if _, ok := limit.(leftOut); ok {
		return side == inner
	}
	return side != -inner
}

func within(e api.Entry, from end, to end) bool {
	return lets(from, e, 1) && lets(to, e, -1)
}
