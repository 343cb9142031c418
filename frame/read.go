package frame

import (
	"errors"
	"iter"
	"strings"

	"palio/api"
)

var (
	errWrong = errors.New("bytes of no reply")
	errMore  = errors.New("the beginning of a reply")
)

// longest is how long a beginning without an END may be: a first byte, a text, and half of the END.
const longest = 1 + api.MaxText + len(end) - 1

// left is what is not read yet.
type left struct {
	text string
}

// line takes what a reply begins with, and its END.
func (l *left) line() (string, error) {
	if l.text != "" && strings.IndexByte("+-:$*", l.text[0]) < 0 {
		return "", errWrong
	}
	line, behind, ended := strings.Cut(l.text, end)
	switch {
	case ended:
		l.text = behind
		return line, nil
	case len(l.text) > longest:
		return "", errWrong
	}
	return "", errMore
}

// bytes takes so many, and their END.
func (l *left) bytes(n int) (string, error) {
	if len(l.text) < n+len(end) {
		return "", errMore
	}
	behind, ended := strings.CutPrefix(l.text[n:], end)
	if !ended {
		return "", errWrong
	}
	s := l.text[:n]
	l.text = behind
	return s, nil
}

// reader reads replies one behind the other; high is how many arrays are begun and not ended.
type reader struct {
	left
	high int
}

func (r *reader) reply() (api.Reply, error) {
	h, err := r.head()
	if err != nil {
		return api.Reply{}, err
	}
	switch h := h.(type) {
	case simple:
		return Simple(string(h)), nil
	case failure:
		return Err(string(h)), nil
	case number:
		return Int(int64(h)), nil
	case length:
		return r.bulk(int(h))
	case count:
		return r.array(int(h))
	}
	return Nil(), nil
}

func (r *reader) head() (head, error) {
	line, err := r.line()
	if err != nil {
		return nil, err
	}
	h := headIn(line[0], line[1:])
	if !fits(h, r.high) {
		return nil, errWrong
	}
	return h, nil
}

func (r *reader) bulk(n int) (api.Reply, error) {
	s, err := r.bytes(n)
	if err != nil {
		return api.Reply{}, err
	}
	return Bulk(s), nil
}

func (r *reader) array(n int) (api.Reply, error) {
	array := Array()
	for reply, err := range r.replies(n) {
		if err != nil {
			return api.Reply{}, err
		}
		array.L = append(array.L, reply)
	}
	return array, nil
}

// replies are the next ones, so many, within one array more.
func (r *reader) replies(n int) iter.Seq2[api.Reply, error] {
	return func(yield func(api.Reply, error) bool) {
		r.high++
		for range n {
			if !yield(r.reply()) {
				break
			}
		}
		r.high--
	}
}
