package space

import (
	"iter"
	"slices"
	"strings"

	"palio/api"
	"palio/dict"
	"palio/lfu"
	"palio/zset"
)

// thing is what a key has: its set, and its use.
type thing struct {
	*zset.Set
	key string
	use api.Use
}

func (th *thing) touch(now int, draw uint32) error {
	use, e := lfu.Touch(th.use, now, draw)
	if e != api.OK {
		return fault(e)
	}
	th.use = use
	return nil
}

// set is a new one, of what it takes of entries.
func (s *Space) set(entries ...api.Entry) *zset.Set {
	set := zset.New(s.limits, s.seed)
	for _, e := range entries {
		set.Add(e.Member, e.Score, 1)
	}
	return set
}

// table is the dict that the keys stand in; a nil space has none, and a nil dict tells of none.
func (s *Space) table() *dict.Dict[*thing] {
	if s == nil {
		return nil
	}
	return s.dict
}

// find is a key's thing. A dict that is moving moves a slot when it is asked, which what only reads, or tells an error, may not do; so all things are gone through then.
func (s *Space) find(key string) (*thing, bool) {
	if _, second, _ := s.table().Sizes(); second == 0 {
		return s.table().Get(key)
	}
	var found *thing
finding:
	for other, th := range s.all() {
		if other == key {
			found = th
			break finding
		}
	}
	return found, found != nil
}

// all goes through the keys and their things.
func (s *Space) all() iter.Seq2[string, *thing] {
	return func(yield func(string, *thing) bool) {
		for _, th := range s.things {
			if !yield(th.key, th) {
				return
			}
		}
	}
}

// keep lets a key have a thing; one that it had is gone.
func (s *Space) keep(key string, th *thing) {
	s.unlist(key)
	// The key is copied, so that no longer text that it was cut out of is kept with it.
	th.key = strings.Clone(key)
	s.things = append(s.things, th)
	s.dict.Set(key, th)
}

func (s *Space) drop(key string) {
	s.unlist(key)
	s.dict.Delete(key)
}

func (s *Space) unlist(key string) {
	s.things = slices.DeleteFunc(s.things, func(th *thing) bool { return th.key == key })
}

// names are put in order by their bytes.
type names []string

func (n names) less(i int, j int) bool { return n[i] < n[j] }

func sum(sizes ...int) int {
	all := 0
	for _, size := range sizes {
		all += size
	}
	return all
}
