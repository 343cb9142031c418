package ints

import (
	"strconv"

	"palio/api"
)

// form is one of a number's two forms, its value or its digits. What has no other form turns into itself.
type form interface {
	turn() form
}

type value int64

type digits string

func (v value) turn() form {
	return digits(strconv.FormatInt(int64(v), 10))
}

// turn reads loosely, overflows too, and then holds what was read against how it is written: so just a number's own digits pass.
func (d digits) turn() form {
	var n int64
	sign := int64(1)
	if len(d) > api.MaxDigits {
		goto none
	}
reading:
	for _, r := range string(d) {
		switch {
		case r == '-':
			sign = -1
		case r >= '0' && r <= '9':
			n = n*10 + sign*int64(r-'0')
		default:
			break reading
		}
	}
	if text(value(n)) == string(d) {
		return value(n)
	}
none:
	return d
}

// text is how a form is written.
func text(f form) string {
	if d, ok := f.(digits); ok {
		return string(d)
	}
	return text(f.turn())
}

// number is a form's value; digits have none till they are turned.
func number(f form) (int64, bool) {
	v, ok := f.(value)
	return int64(v), ok
}
