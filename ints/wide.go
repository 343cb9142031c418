package ints

import (
	"math/bits"

	"palio/api"
)

// wide is a whole number of 128 bits, in two's complement: sums and products of numbers are checked when they are whole, as no step on the way can then overflow.
type wide struct {
	high int64
	low  uint64
}

func sum(numbers ...int64) wide {
	var w wide
	for _, n := range numbers {
		low, carry := bits.Add64(w.low, uint64(n), 0)
		w = wide{w.high + n>>63 + int64(carry), low}
	}
	return w
}

// product takes off what a number below 0 counts too much in Mul64: 2^64 times the other one.
func product(a int64, b int64) wide {
	high, low := bits.Mul64(uint64(a), uint64(b))
	return wide{int64(high) - a>>63&b - b>>63&a, low}
}

// narrow is the same number in 64 bits, if its high half says no more than the sign.
func (w wide) narrow() (int64, api.Errno) {
	n := int64(w.low)
	if w.high != n>>63 {
		return 0, api.ErrOverflow
	}
	return n, api.OK
}
