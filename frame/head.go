package frame

import (
	"strings"

	"palio/api"
	"palio/ints"
)

const end = "\r\n"

// head is what a reply's bytes begin with, up to the first END: a first byte, and what it says behind it.
type head interface {
	mark() byte
	said() string
}

type simple string

type failure string

type number int64

// length is of a bulk's bytes, which follow.
type length int64

type nothing struct{}

// count is of an array's replies, which follow.
type count int64

func (h simple) mark() byte  { return '+' }
func (h failure) mark() byte { return '-' }
func (h number) mark() byte  { return ':' }
func (h length) mark() byte  { return '$' }
func (h nothing) mark() byte { return '$' }
func (h count) mark() byte   { return '*' }

func (h simple) said() string  { return string(h) }
func (h failure) said() string { return string(h) }
func (h number) said() string  { return ints.Format(int64(h)) }
func (h length) said() string  { return ints.Format(int64(h)) }
func (h nothing) said() string { return "-1" }
func (h count) said() string   { return ints.Format(int64(h)) }

// headOf is a reply's head, or nil, if it is of no kind or has a field that its kind leaves empty.
func headOf(r api.Reply) head {
	worded := r.Kind == api.ReplySimple || r.Kind == api.ReplyError || r.Kind == api.ReplyBulk
	if r.N != 0 && r.Kind != api.ReplyInt || r.S != "" && !worded || len(r.L) > 0 && r.Kind != api.ReplyArray {
		return nil
	}
	switch r.Kind {
	case api.ReplySimple:
		return simple(r.S)
	case api.ReplyError:
		return failure(r.S)
	case api.ReplyInt:
		return number(r.N)
	case api.ReplyBulk:
		return length(len(r.S))
	case api.ReplyNil:
		return nothing{}
	case api.ReplyArray:
		return count(len(r.L))
	}
	return nil
}

// headIn is the head that is made of one of the five first bytes and what it says, or nil, if there is none.
func headIn(mark byte, said string) head {
	switch mark {
	case '+':
		return simple(said)
	case '-':
		return failure(said)
	}
	n, e := ints.Parse(said)
	switch {
	case e != api.OK:
		return nil
	case mark == ':':
		return number(n)
	case mark == '*':
		return count(n)
	case n == -1:
		return nothing{}
	}
	return length(n)
}

// fits tells whether a right reply has this head, within so many arrays.
func fits(h head, high int) bool {
	switch h := h.(type) {
	case nil:
		return false
	case simple, failure:
		return len(h.said()) <= api.MaxText && !strings.ContainsAny(h.said(), end)
	case length:
		return h >= 0 && h <= api.MaxText
	case count:
		return h >= 0 && h <= api.MaxItems && high < api.MaxHigh
	}
	return true
}
