// Package ints is layer 1: see shared/doc/01-ints.md.
package ints

import "palio/api"

// Format is a number's digits, Parse the number of digits.
func Format(n int64) string { return text(value(n)) }

func Parse(s string) (int64, api.Errno) {
	n, ok := number(digits(s).turn())
	if !ok {
		return 0, api.ErrInt
	}
	return n, api.OK
}

// Add, Sub and Mul are checked.
func Add(a int64, b int64) (int64, api.Errno) { return sum(a, b).narrow() }

// Sub adds ^b and 1, as -b may be no number, but ^b always is one.
func Sub(a int64, b int64) (int64, api.Errno) { return sum(a, ^b, 1).narrow() }

func Mul(a int64, b int64) (int64, api.Errno) { return product(a, b).narrow() }

// Clamp is a place in some things.
func Clamp(at int64, n int64) int64 {
	n = max(n, 0)
	if at < 0 {
		at += n
	}
	return min(max(at, 0), n)
}
