package command

import (
	"iter"
	"math"
	"slices"

	"palio/api"
	"palio/bound"
	"palio/flags"
	"palio/glob"
	"palio/ints"
)

// mostSets is how many sets can be put together.
const mostSets = 60

// reader is a command that is made, and the words that are not read yet.
type reader struct {
	api.Cmd
	rest []string
}

// made is the command that words make.
func made(words ...string) (api.Cmd, error) {
	if len(words) == 0 {
		return api.Cmd{}, fault(api.ErrName)
	}
	r := &reader{api.Cmd{Name: capitals(words[0])}, words[1:]}
	asked, is := asks()[r.Name]
	switch n := len(r.rest); {
	case !is:
		return api.Cmd{}, fault(api.ErrName)
	case n < asked.least || n > asked.most:
		return api.Cmd{}, fault(api.ErrArity)
	}
	if err := r.read(asked.steps...); err != nil {
		return api.Cmd{}, err
	}
	return r.Cmd, nil
}

// read goes step by step; words that no step takes do not belong there.
func (r *reader) read(steps ...step) error {
	for _, next := range steps {
		if err := next(r); err != nil {
			return err
		}
	}
	if len(r.rest) > 0 {
		return fault(api.ErrSyntax)
	}
	return nil
}

// take takes the next word off, of which there must be one.
func (r *reader) take() string {
	word := r.rest[0]
	r.rest = r.rest[1:]
	return word
}

// next takes words off while they are gone through, so many of them.
func (r *reader) next(n int) iter.Seq[string] {
	return func(yield func(string) bool) {
		for range n {
			if !yield(r.take()) {
				return
			}
		}
	}
}

// says takes the next word off, if it is one that is told in capitals.
func (r *reader) says(word string) bool {
	is := len(r.rest) > 0 && capitals(r.rest[0]) == word
	if is {
		r.take()
	}
	return is
}

func (r *reader) turn() error {
	r.Turned = true
	return nil
}

func (r *reader) incr() error {
	r.Flags.Incr = true
	return nil
}

func (r *reader) encoding() error {
	if !r.says("ENCODING") {
		return fault(api.ErrSyntax)
	}
	return nil
}

func (r *reader) key() error { return r.hold(1) }

func (r *reader) keys() error { return r.hold(len(r.rest)) }

// hold reads so many keys.
func (r *reader) hold(n int) error {
	for key := range r.next(n) {
		if len(key) > api.MaxKey {
			return fault(api.ErrSyntax)
		}
		r.Keys = append(r.Keys, key)
	}
	return nil
}

func (r *reader) members() error {
	for member := range r.next(len(r.rest)) {
		if err := r.enter(member, 0); err != nil {
			return err
		}
	}
	return nil
}

func (r *reader) enter(member string, score int64) error {
	if len(member) > api.MaxMember {
		return fault(api.ErrSyntax)
	}
	r.Entries = append(r.Entries, api.Entry{Member: member, Score: score})
	return nil
}

func (r *reader) flags() error {
	f, n, e := flags.Read(r.rest)
	if e != api.OK {
		return fault(api.ErrSyntax)
	}
	r.Flags, r.rest = f, r.rest[n:]
	return nil
}

// pairs reads scores, each with its member behind it.
func (r *reader) pairs() error {
	n := len(r.rest)
	if n == 0 || n%2 != 0 || r.Flags.Incr && n > 2 {
		return fault(api.ErrSyntax)
	}
	for len(r.rest) > 0 {
		score, err := r.number()
		if err == nil {
			err = r.enter(r.take(), score)
		}
		if err != nil {
			return err
		}
	}
	return nil
}

func (r *reader) number() (int64, error) {
	n, e := ints.Parse(r.take())
	if e != api.OK {
		return 0, fault(api.ErrNumber)
	}
	return n, nil
}

func (r *reader) numbers() error {
	n, err := r.number()
	if err != nil {
		return err
	}
	r.N = n
	r.M, err = r.number()
	return err
}

// amount reads how many there are to be, which is one, if it is left out.
func (r *reader) amount() error {
	if len(r.rest) == 0 {
		r.N = 1
		return nil
	}
	n, err := r.number()
	if err != nil || n < 0 {
		return fault(api.ErrNumber)
	}
	r.N = n
	return nil
}

func (r *reader) scores() error {
	r.Scores = r.says("WITHSCORES")
	return nil
}

func (r *reader) bounds() error {
	from, first := bound.Parse(r.take())
	to, second := bound.Parse(r.take())
	if first != api.OK || second != api.OK {
		return fault(api.ErrEnds)
	}
	r.From, r.To = from, to
	return nil
}

func (r *reader) edges() error {
	low, first := bound.ParseEdge(r.take())
	high, second := bound.ParseEdge(r.take())
	if first != api.OK || second != api.OK {
		return fault(api.ErrEnds)
	}
	r.Low, r.High = low, high
	return nil
}

func (r *reader) cursor() error {
	n, e := ints.Parse(r.take())
	if e != api.OK || n < 0 || n > math.MaxUint32 {
		return fault(api.ErrCursor)
	}
	r.Cursor = uint32(n)
	return nil
}

// pattern reads MATCH and a pattern, which is one of all, if they are left out.
func (r *reader) pattern() error {
	r.Match = "*"
	if !r.says("MATCH") {
		return nil
	}
	if len(r.rest) == 0 {
		return fault(api.ErrSyntax)
	}
	r.Match = r.take()
	if _, e := glob.Match(r.Match, ""); e != api.OK {
		return fault(api.ErrSyntax)
	}
	return nil
}

// sets reads a count, and so many keys.
func (r *reader) sets() error {
	n, err := r.number()
	switch {
	case err != nil, n < 1, n > mostSets:
		return fault(api.ErrNumber)
	case n > int64(len(r.rest)):
		return fault(api.ErrSyntax)
	}
	return r.hold(int(n))
}

// mix reads how sets are put together: what is behind the weights is the same that may stand there without them.
func (r *reader) mix() error {
	n := len(r.Keys) - 1
	r.Weights, r.Agg = slices.Repeat([]int64{1}, n), api.AggSum
	switch {
	case r.says("WEIGHTS"):
		if err := r.weigh(n); err != nil {
			return err
		}
		fallthrough
	default:
		return r.aggregate()
	}
}

// weigh reads a weight of each set, in the place of the one that it has without.
func (r *reader) weigh(n int) error {
	if n > len(r.rest) {
		return fault(api.ErrSyntax)
	}
	for at := range n {
		weight, err := r.number()
		if err != nil {
			return err
		}
		r.Weights[at] = weight
	}
	return nil
}

func (r *reader) aggregate() error {
	switch {
	case !r.says("AGGREGATE"):
		return nil
	case r.says("SUM"):
		r.Agg = api.AggSum
	case r.says("MIN"):
		r.Agg = api.AggMin
	case r.says("MAX"):
		r.Agg = api.AggMax
	default:
		return fault(api.ErrSyntax)
	}
	return nil
}
