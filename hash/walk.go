package hash

import (
	"iter"
	"math"

	"palio/api"
)

// bytesOf goes by places, as a range over the text itself would go by runes.
func bytesOf(s string) iter.Seq[byte] {
	return func(yield func(byte) bool) {
		for at := 0; at < len(s) && yield(s[at]); at++ {
		}
	}
}

// sizes goes through all sizes, from the least one on.
func sizes(yield func(int) bool) {
	for size := api.LeastSize; size <= api.MostSize && yield(size); size <<= 1 {
	}
}

// swapped is a number whose neighbours, of each width in turn, have changed places.
func swapped(n uint32, widths ...int) uint32 {
	for _, width := range widths {
		// The right one of each two neighbours: hexadecimal 55555555 for width 1, 33333333 for width 2, and so on.
		right := uint32(math.MaxUint32) / (1<<width + 1)
		n = n>>width&right | n&right<<width
	}
	return n
}
