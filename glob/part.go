package glob

import (
	"slices"
	"unicode"
)

// part is what a place of a pattern says of a text's characters.
type part interface {
	takes(r rune) bool
}

// run is any characters, also none.
type run struct{}

func (run) takes(r rune) bool { return true }

// one is one character, of which a closure tells whether it is a right one.
type one func(r rune) bool

func (o one) takes(r rune) bool { return o(r) }

func parts(chars ...rune) []part {
	var list []part
	for len(chars) > 0 {
		p, size := first(chars...)
		list = append(list, p)
		chars = chars[size:]
	}
	return list
}

// first is the part that characters begin with, and how many of them it is made of.
func first(chars ...rune) (part, int) {
	switch chars[0] {
	case '*':
		return run{}, 1
	case '?':
		return span(0, unicode.MaxRune), 1
	case '[':
		if end := classEnd(chars...); end > 0 {
			return class(chars[1:end]...), end + 1
		}
	case '\\':
		if len(chars) > 1 {
			return among(chars[1]), 2
		}
	}
	return among(chars[0]), 1
}

// classEnd is the place of the `]` that ends the class that characters begin with, or 0: the `[` is then one itself.
func classEnd(chars ...rune) int {
	least := 2
	if len(chars) > 1 && chars[1] == '^' {
		least = 3
	}
	for at, r := range chars {
		if at >= least && r == ']' {
			return at
		}
	}
	return 0
}

func class(chars ...rune) one {
	if chars[0] == '^' {
		return not(among(chars[1:]...))
	}
	return among(chars...)
}

// among tells the characters of a class: each itself, but for three that are a range.
func among(chars ...rune) one {
	var asked []one
	for at := 0; at < len(chars); at++ {
		from := chars[at]
		if at+2 < len(chars) && chars[at+1] == '-' {
			at += 2
		}
		asked = append(asked, span(from, chars[at]))
	}
	return func(r rune) bool {
		return slices.ContainsFunc(asked, func(is one) bool { return is(r) })
	}
}

func span(from rune, to rune) one {
	return func(r rune) bool { return r >= min(from, to) && r <= max(from, to) }
}

func not(is one) one {
	return func(r rune) bool { return !is(r) }
}
