package parse

import (
	"strings"

	"palio/api"
	"palio/ints"
)

// request is one of a request's two kinds, as its first line tells it: how many arguments follow, or the words that they are.
type request interface {
	size() int64
}

type counted int64

type worded []string

func (c counted) size() int64 { return int64(c) }
func (w worded) size() int64  { return int64(len(w)) }

// arguments takes a request.
func (l *left) arguments() ([]string, error) {
	r, err := l.request()
	switch {
	case err != nil:
		return nil, err
	case r.size() > api.MaxArgs:
		return nil, wrong
	}
	if list, ok := r.(worded); ok {
		return list, nil
	}
	return l.bulks(r.size())
}

// request takes a request's first line.
func (l *left) request() (request, error) {
	if strings.HasPrefix(l.text, "*") {
		n, err := l.number()
		return counted(n), err
	}
	line, err := l.line("\n", api.MaxInline)
	return worded(words(strings.TrimSuffix(line, "\r"))), err
}

// words are what stands between blanks and tabs; one blank more ends the last one.
func words(line string) []string {
	var list []string
	from := 0
	for at, r := range line + " " {
		if r != ' ' && r != '\t' {
			continue
		}
		if at > from {
			list = append(list, line[from:at])
		}
		from = at + 1
	}
	return list
}

func (l *left) bulks(n int64) ([]string, error) {
	var list []string
	for range n {
		s, err := l.bulk()
		if err != nil {
			return nil, err
		}
		list = append(list, s)
	}
	return list, nil
}

func (l *left) bulk() (string, error) {
	if l.text != "" && l.text[0] != '$' {
		return "", wrong
	}
	n, err := l.number()
	switch {
	case err != nil:
		return "", err
	case n < 0 || n > api.MaxBulk:
		return "", wrong
	}
	return l.bytes(int(n))
}

// right tells whether a request can be made of arguments.
func right(args ...string) bool {
	if len(args) < 1 || len(args) > api.MaxArgs {
		return false
	}
	for _, arg := range args {
		if len(arg) > api.MaxBulk {
			return false
		}
	}
	return true
}

func written(args ...string) string {
	b := []byte("*" + ints.Format(int64(len(args))) + end)
	for _, arg := range args {
		b = append(b, "$"+ints.Format(int64(len(arg)))+end+arg+end...)
	}
	return string(b)
}
