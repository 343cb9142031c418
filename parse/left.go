package parse

import (
	"errors"
	"iter"
	"strings"

	"palio/api"
	"palio/ints"
)

const end = "\r\n"

// fault is the number of what keeps bytes from being read.
type fault api.Errno

const (
	wrong = fault(api.ErrProto)
	more  = fault(api.ErrMore)
)

func (f fault) Error() string { return "fault " + ints.Format(int64(f)) }

// left is what is not read yet.
type left struct {
	text string
}

// split takes the first request off, or, where there is a fault, nothing.
func (l *left) split() ([]string, api.Errno) {
	rest := *l
	list, err := rest.arguments()
	var f fault
	if errors.As(err, &f) {
		return nil, api.Errno(f)
	}
	*l = rest
	return list, api.OK
}

// line takes what stands ahead of a mark, and the mark. It looks no further than at so many bytes and one more, so that a long text costs no more than a short one: a line that goes on there is too long, wherever it ends.
func (l *left) line(mark string, most int) (string, error) {
	missing := more
looking:
	for at, behind := range l.places() {
		switch {
		case strings.HasPrefix(behind, mark):
			line := l.text[:at]
			l.text = behind[len(mark):]
			return line, nil
		case at == most:
			missing = wrong
			break looking
		}
	}
	return "", missing
}

// places are those of the bytes, and beside each the bytes from there on.
func (l *left) places() iter.Seq2[int, string] {
	return func(yield func(int, string) bool) {
		for at := range len(l.text) {
			if !yield(at, l.text[at:]) {
				return
			}
		}
	}
}

// number takes a first byte, the digits behind it, and their END.
func (l *left) number() (int64, error) {
	line, err := l.line(end, api.MaxHead)
	if err != nil {
		return 0, err
	}
	n, e := ints.Parse(line[1:])
	if e != api.OK {
		return 0, wrong
	}
	return n, nil
}

// bytes takes so many, and their END.
func (l *left) bytes(n int) (string, error) {
	if len(l.text) < n+len(end) {
		return "", more
	}
	behind, ended := strings.CutPrefix(l.text[n:], end)
	if !ended {
		return "", wrong
	}
	s := l.text[:n]
	l.text = behind
	return s, nil
}
